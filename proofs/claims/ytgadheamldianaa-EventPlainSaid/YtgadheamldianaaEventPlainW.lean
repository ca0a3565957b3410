/-
  EventPlain, walked.
-/
import Derived.Test.YtgadheamldianaaEventEqualsW
namespace Go.Proofs.Ytgadheamldianaa
open Go.RowKit pxm imm

theorem plainO_idem (o : Op9) : plainO (plainO o) = plainO o := by
  by_cases h1 : o.k = 1 ∨ o.k = 3
  · have e : plainO o = { Op9.o with k := o.k, i := o.i, p := o.p, n := o.n } := by unfold plainO; rw [if_pos h1]
    rw [e]; unfold plainO; rw [if_pos h1]
  by_cases h2 : o.k = 2
  · have e : plainO o = { Op9.o with k := o.k, i := o.i } := by unfold plainO; rw [if_neg h1, if_pos h2]
    rw [e]; unfold plainO; rw [if_neg h1, if_pos h2]
  by_cases h4 : o.k = 4
  · have e : plainO o = { Op9.o with k := o.k, i := o.i, m := o.m } := by unfold plainO; rw [if_neg h1, if_neg h2, if_pos h4]
    rw [e]; unfold plainO; rw [if_neg h1, if_neg h2, if_pos h4]
  by_cases h5 : o.k = 5
  · have e : plainO o = { Op9.o with k := o.k, i := o.i, on := o.on, r := o.r } := by unfold plainO; rw [if_neg h1, if_neg h2, if_neg h4, if_pos h5]
    rw [e]; unfold plainO; rw [if_neg h1, if_neg h2, if_neg h4, if_pos h5]
  by_cases h6 : o.k = 6
  · have e : plainO o = { Op9.o with k := o.k, i := o.i, N := o.N } := by unfold plainO; rw [if_neg h1, if_neg h2, if_neg h4, if_neg h5, if_pos h6]
    rw [e]; unfold plainO; rw [if_neg h1, if_neg h2, if_neg h4, if_neg h5, if_pos h6]
  by_cases h7 : o.k = 7
  · have e : plainO o = { Op9.o with k := o.k, i := o.i, lk := o.lk } := by unfold plainO; rw [if_neg h1, if_neg h2, if_neg h4, if_neg h5, if_neg h6, if_pos h7]
    rw [e]; unfold plainO; rw [if_neg h1, if_neg h2, if_neg h4, if_neg h5, if_neg h6, if_pos h7]
  by_cases h8 : o.k = 8
  · have e : plainO o = { Op9.o with k := o.k, i := o.i, on := o.on } := by unfold plainO; rw [if_neg h1, if_neg h2, if_neg h4, if_neg h5, if_neg h6, if_neg h7, if_pos h8]
    rw [e]; unfold plainO; rw [if_neg h1, if_neg h2, if_neg h4, if_neg h5, if_neg h6, if_neg h7, if_pos h8]
  have e : plainO o = { Op9.o with k := o.k } := by unfold plainO; rw [if_neg h1, if_neg h2, if_neg h4, if_neg h5, if_neg h6, if_neg h7, if_neg h8]
  rw [e]; unfold plainO; rw [if_neg h1, if_neg h2, if_neg h4, if_neg h5, if_neg h6, if_neg h7, if_neg h8]
theorem plainE_idem (v : EV) : plainE (plainE v) = plainE v := by
  by_cases h1 : v.k = 1
  · have e : plainE v = ⟨1, v.os.map plainO, 0, 0, 0⟩ := by unfold plainE; rw [if_pos h1]
    rw [e]
    have e2 : (v.os.map plainO).map plainO = v.os.map plainO := by rw [List.map_map]; exact List.map_congr_left fun o _ => plainO_idem o
    unfold plainE
    rw [if_pos rfl]
    show EV.mk 1 ((v.os.map plainO).map plainO) 0 0 0 = _
    rw [e2]
  by_cases h2 : v.k = 2
  · have e : plainE v = ⟨2, [], v.x, v.y, 0⟩ := by unfold plainE; rw [if_neg h1, if_pos h2]
    rw [e]; rfl
  by_cases h3 : v.k = 3 ∨ v.k = 4 ∨ v.k = 5
  · have e : plainE v = ⟨v.k, [], 0, 0, v.n⟩ := by unfold plainE; rw [if_neg h1, if_neg h2, if_pos h3]
    rw [e]; unfold plainE; rw [if_neg h1, if_neg h2, if_pos h3]
  have e : plainE v = ⟨v.k, [], 0, 0, 0⟩ := by unfold plainE; rw [if_neg h1, if_neg h2, if_neg h3]
  rw [e]; unfold plainE; rw [if_neg h1, if_neg h2, if_neg h3]
theorem plainE_len (v : EV) : (plainE v).os.length ≤ v.os.length := by
  unfold plainE
  split
  · rw [List.length_map]; exact Nat.le_refl _
  split
  · exact Nat.zero_le _
  split <;> exact Nat.zero_le _
set_option maxHeartbeats 8000000 in
set_option maxRecDepth 100000 in
theorem plain_in (k : Int) (A : Option Addr) (l : List OpR) (c : Nat) (x y n : Int) (w : World) (h1 : OpsR w A l) (f1 : l.length ≤ 1099511627776) :
    Calls Try.prog 3 #[.agg (evl k A l.length c x y n).toArray] w fun e w' => e = .returned (.bool true) ∧ Below w.heap.size w w' := by
  have H1 := Lib.hid h1
  have HF := Lib.hid f1
  have HB0 : Hid (Below w.heap.size w (w.alloc (.cells (evl k A l.length c x y n).toArray 25))) := (Below.refl _ _).alloc (Nat.le_refl _) _
  have HK1 : Hid (Blk (w.alloc (.cells (evl k A l.length c x y n).toArray 25)) w.heap.size (evl k A l.length c x y n)) := blk_new w (evl k A l.length c x y n) _
  clear h1 f1
  go_enter Try.func3, Try.ntmps3
  go_upto_region 1 with (fail)
  generalize (w.alloc (.cells (evl k A l.length c x y n).toArray 25)) = w0 at *
  have x1 : w0.cell? ⟨w.heap.size, 1, none⟩ = some (.slice A l.length c) := HK1.out.cell 1
  have i1 := HK1.out.inside
  have HT := Lib.hid (tr_one (c := c) (H1.out.below HB0.out) HF.out)
  have HBa : Hid (Below w.heap.size w (w0.alloc (.cells #[.slice A l.length c] tOps))) := HB0.out.alloc HB0.out.size _
  have HK2 := Lib.hid (HK1.out.alloc (.cells #[.slice A l.length c] tOps))
  clear HK1 HB0
  go_wp2_with (first | ((with_reducible show wpList _ _ _ (Oper.mk _ (Op.buildSlice _ _ _) _ _ _ _ :: _) _ _); refine wpl_bs _ _ _ rfl rfl (by simp [go_sem]) (bs_opl1 A l.length c _) ?_))
  generalize w0.alloc (.cells #[.slice A l.length c] tOps) = w2 at *
  generalize w0.heap.size = b1 at *
  clear x1 i1
  have HC := Lib.hid (size_law _ _ 1 w2 HT.out)
  unfold SizeQ at HC
  refine HC.out.mono ?_
  rintro e w4 ⟨n9, rfl, hfit, -, hb⟩
  have HB4 : Hid (Below w.heap.size w w4) := HBa.out.trans (hb.mono HBa.out.size)
  have HFI := Lib.hid hfit
  have HK4 := Lib.hid (HK2.out.below' hb)
  clear hb hfit HC HT HBa HK2
  by_cases hn : n9 < 0
  · have t : decide (n9 < 0) = true := decide_eq_true hn
    clear hn
    have HC := Lib.hid (awake_any w4)
    go_wp2_with (fail)
    refine HC.out.mono ?_
    rintro e w5 ⟨rfl, hb⟩
    have HB5 : Hid (Below w.heap.size w w5) := HB4.out.trans (hb.mono HB4.out.size)
    clear hb HC
    go_wp2_with (fail)
    go_ret
    exact ⟨rfl, HB5.out⟩
  have t : decide (n9 < 0) = false := decide_eq_false hn
  have HFT := Lib.hid (fits_one (HFI.out.1 (by omega)))
  obtain ⟨ev, hev⟩ : ∃ ev : EV, (⟨k, l.map (·.o), x, y, n⟩ : EV) = ev := ⟨_, rfl⟩
  have HLN : Hid (ev.os.length ≤ 2000) := by show _ ≤ _; rw [← hev]; show (l.map (·.o)).length ≤ 2000; rw [List.length_map]; have := HFT.out.2; omega
  have FO : Hid (∀ W, Below w.heap.size w W → OpsE W 0 A ev.os) := fun W hb => by
    rw [← hev]
    exact ⟨l, rfl, OpsB.zero (OpsT.of (H1.out.below hb) HFT.out.1)⟩
  have HEC : Hid (evl k A l.length c x y n = ev.cs A c) := by show _ = _; rw [← hev, evl_cs]
  clear hn HFI H1 HF HFT hev
  rw [HEC.out] at HK4
  have HC := Lib.hid (plain_any_ ev A c w4 (FO.out _ HB4.out) HLN.out)
  unfold EvQ at HC
  go_upto_region 3 with (fail)
  clear t
  go_wp2_with (first | ((with_reducible show wpList _ _ _ (Oper.mk _ (Op.load _ _) _ _ _ _ :: _) _ _); refine wpl_take 25 _ rfl rfl _ 0 rfl _ HK4.out (ev.cs A c) rfl _ Try.underlying25 rfl (by kernel_rfl) ?_))
  refine HC.out.mono ?_
  rintro e w5 ⟨A2, c2, rfl, ho, hb⟩
  have HB5 : Hid (Below w.heap.size w w5) := HB4.out.trans (hb.mono HB4.out.size)
  have HK5 := Lib.hid (HK4.out.below' hb)
  have HE5 : Hid (OpsE w5 0 A2 (plainE ev).os) := ho.ge (Nat.zero_le _)
  clear ho hb HC HB4 HK4
  have HZ5 : Hid (Blk (w5.alloc (.cells #[.int .i64 0, .slice none 0 0, .int .i64 0, .int .i64 0, .int .u64 0] 25)) w5.heap.size (evl 0 none 0 0 0 0 0)) := blk_new w5 (evl 0 none 0 0 0 0 0) _
  have HA5 : Hid (Below w5.heap.size w5 (w5.alloc (.cells #[.int .i64 0, .slice none 0 0, .int .i64 0, .int .i64 0, .int .u64 0] 25))) := (Below.refl _ _).alloc (Nat.le_refl _) _
  go_upto_region 4 with (first | ((with_reducible show wpList _ _ _ (Oper.mk _ (Op.store _ _ _) _ _ _ _ :: _) _ _); refine wpl_stow 25 _ _ rfl rfl rfl _ 0 rfl ((plainE ev).cs A2 c2) rfl ((evl 0 none 0 0 0 0 0)) HZ5.out ((plainE ev).cs A2 c2) rfl (Nat.le_of_ble_eq_true rfl) (by kernel_rfl) (EV.one _ _ _) ?_; intro w6 HW6 HP5))
  obtain ⟨b3, hb3⟩ : ∃ b, w5.heap.size = b := ⟨_, rfl⟩
  have HBw : Hid (Below w5.heap.size w5 w6) := HW6.out.below HA5.out (Nat.le_refl _)
  have HK5 := Lib.hid (HK5.out.below' HBw.out)
  have HE6 := Lib.hid (HE5.out.below HBw.out)
  have HB6 : Hid (Below w.heap.size w w6) := HB5.out.trans (HBw.out.mono HB5.out.size)
  rw [hb3] at HP5 ⊢
  clear hb3 HZ5 HA5 HW6 HBw HE5 HB5
  have HLP : Hid ((plainE ev).os.length ≤ 2000) := Nat.le_trans (plainE_len ev) HLN.out
  have FDP : Hid (∀ W, Below w6.heap.size w6 W → Calls Try.prog 10 #[.agg (ev.cs A c).toArray] W fun e w' => ∃ A9 c9, e = .returned (.agg ((plainE ev).cs A9 c9).toArray) ∧ OpsE w' 0 A9 (plainE ev).os ∧ Below W.heap.size W w') := fun W hb => dplain_ev ev A c W (FO.out _ (HB6.out.trans (hb.mono HB6.out.size))) HLN.out
  have FAL : Hid (∀ W, Below w6.heap.size w6 W → ∀ A9 c9, OpsE W 0 A9 (plainE ev).os → Calls Try.prog 9 #[.agg ((plainE ev).cs A2 c2).toArray, .agg ((plainE ev).cs A9 c9).toArray] W fun e w' => e = .returned (.int .i64 1) ∧ Below W.heap.size W w') := fun W hb A9 c9 ho => (alike_ev _ _ A2 A9 c2 c9 W (HE6.out.below hb) ho HLP.out HLP.out).mono fun _ _ h => h.one rfl
  have FPP : Hid (∀ W, Below w6.heap.size w6 W → Calls Try.prog 8 #[.agg ((plainE ev).cs A2 c2).toArray] W fun e w' => ∃ A9 c9, e = .returned (.agg ((plainE ev).cs A9 c9).toArray) ∧ OpsE w' 0 A9 (plainE ev).os ∧ Below W.heap.size W w') := fun W hb => by
    have h := plain_any_ (plainE ev) A2 c2 W (HE6.out.below hb) HLP.out
    rw [plainE_idem] at h
    exact h.mono fun _ _ h => h.to
  have FEQ : Hid (∀ W, Below w6.heap.size w6 W → ∀ A9 c9, OpsE W 0 A9 (plainE ev).os → Calls Try.prog 11 #[.agg ((plainE ev).cs A2 c2).toArray, .agg ((plainE ev).cs A9 c9).toArray] W fun e w' => e = .returned (.bool true) ∧ Below W.heap.size W w') := fun W hb A9 c9 ho => (equal_ev _ _ A2 A9 c2 c9 W (HE6.out.below hb) ho HLP.out HLP.out).mono fun _ _ h => h.told ⟨fun _ => rfl, fun _ => rfl⟩
  refine regs.wp_region_put (regs.bl) (regs.noJ) [12, 13, 14, 15, 16, 17, 18, 19, 20, 21, 22, 23, 24, 25, 2] (by kernel_rfl) (by kernel_rfl) (fun _ => regs.bl_refl _) (regs.bl_trans) (fun i => (match i with
    | 0 => regs.Say.val _ (.agg ((plainE ev).cs A2 c2).toArray)
    | 1 => regs.Say.val _ (.agg (ev.cs A c).toArray)
    | 2 => (⟨fun v wv => ∃ A9 c9, v = .agg ((plainE ev).cs A9 c9).toArray ∧ OpsE wv 0 A9 (plainE ev).os, fun v q1 q2 h hb => h.elim fun A h => h.elim fun c h => ⟨A, c, h.1, h.2.below hb⟩⟩ : regs.Say regs.bl)
    | 3 => regs.Say.val _ (.int .i64 1)
    | 4 => regs.Say.val _ (.bool true)
    | 5 => regs.Say.val _ (.bool true)
    | 6 => regs.Say.val _ (.agg ((plainE ev).cs A2 c2).toArray)
    | 7 => regs.Say.val _ (.agg ((plainE ev).cs A2 c2).toArray)
    | 8 => (⟨fun v wv => ∃ A9 c9, v = .agg ((plainE ev).cs A9 c9).toArray ∧ OpsE wv 0 A9 (plainE ev).os, fun v q1 q2 h hb => h.elim fun A h => h.elim fun c h => ⟨A, c, h.1, h.2.below hb⟩⟩ : regs.Say regs.bl)
    | 9 => regs.Say.val _ (.bool true)
    | 10 => regs.Say.val _ (.bool true)
    | 11 => regs.Say.val _ (.bool true)
    | 12 => regs.Say.val _ (.bool true)
    | 13 => regs.Say.val _ (.bool true)
    | 14 => regs.Say.val _ (.bool true)
    | _ => regs.Say.any _ : regs.Say (regs.bl)).p) (fun _ => regs.Say.mono _) (by kernel_rfl) ((Below.refl _ _).drew) (regs.noJ_ok _ _) ⟨?_, ?_, ?_, ?_, ?_, ?_, ?_, ?_, ?_, ?_, ?_, ?_, ?_, ?_, ?_, trivial⟩ ?_
  · refine regs.StepOK.plain rfl fun L a w1 hh => ?_
    have h3 : a.tmps[3]?.getD undef = .pointer (some ⟨b3, 0, none⟩) := by rw [← Array.getD_eq_getD_getElem?]; exact hh.old 3 rfl
    have hB := Lib.hid (HP5.out.below' hh.rel)
    have hJ := Lib.hid hh.st
    exact wp_take 25 _ rfl b3 0 (by simpa [go_sem] using h3) _ hB.out ((plainE ev).cs A2 c2) rfl _ Try.underlying25 rfl (by kernel_rfl) ⟨_, rfl, regs.bl_refl _, rfl, hJ.out⟩
  · refine regs.StepOK.plain rfl fun L a w1 hh => ?_
    have h1 : a.tmps[1]?.getD undef = .pointer (some ⟨w.heap.size, 0, none⟩) := by rw [← Array.getD_eq_getD_getElem?]; exact hh.old 1 rfl
    have hB := Lib.hid (HK5.out.below' hh.rel)
    have hJ := Lib.hid hh.st
    exact wp_take 25 _ rfl w.heap.size 0 (by simpa [go_sem] using h1) _ hB.out (ev.cs A c) rfl _ Try.underlying25 rfl (by kernel_rfl) ⟨_, rfl, regs.bl_refl _, rfl, hJ.out⟩
  · refine regs.StepOK.plain rfl fun L a w1 hh => ?_
    have h13 : a.tmps[13]?.getD undef = .agg (ev.cs A c).toArray := by rw [← Array.getD_eq_getD_getElem?]; exact hh.dep 1 13 (by kernel_rfl) (by kernel_rfl)
    have hC := Lib.hid (FDP.out w1 hh.rel)
    have hJ := Lib.hid hh.st
    clear hh
    go_simp
    refine hC.out.mono ?_
    rintro e w9 ⟨A9, c9, rfl, ho9, hb9⟩
    exact ⟨_, rfl, hb9, ⟨A9, ⟨c9, rfl⟩, ho9⟩, hJ.out⟩
  · refine regs.StepOK.plain rfl fun L a w1 hh => ?_
    have h12 : a.tmps[12]?.getD undef = .agg ((plainE ev).cs A2 c2).toArray := by rw [← Array.getD_eq_getD_getElem?]; exact hh.dep 0 12 (by kernel_rfl) (by kernel_rfl)
    obtain ⟨A8, c8, e8, ho8⟩ := (show ∃ A9 c9, (a.tmps.getD 14 undef) = .agg ((plainE ev).cs A9 c9).toArray ∧ OpsE w1 0 A9 (plainE ev).os from hh.dep 2 14 (by kernel_rfl) (by kernel_rfl))
    have h14 : a.tmps[14]?.getD undef = .agg ((plainE ev).cs A8 c8).toArray := by rw [← Array.getD_eq_getD_getElem?]; exact e8
    have hC := Lib.hid (FAL.out w1 hh.rel A8 c8 ho8)
    have hJ := Lib.hid hh.st
    clear hh
    go_simp
    refine hC.out.mono ?_
    rintro e w9 ⟨rfl, hb9⟩
    exact ⟨_, rfl, hb9, rfl, hJ.out⟩
  · refine regs.StepOK.plain rfl fun L a w1 hh => ?_
    have h15 : a.tmps[15]?.getD undef = .int .i64 1 := by rw [← Array.getD_eq_getD_getElem?]; exact hh.dep 3 15 (by kernel_rfl) (by kernel_rfl)
    have hJ := Lib.hid hh.st
    clear hh
    go_simp
    exact ⟨_, rfl, regs.bl_refl _, rfl, hJ.out⟩
  · refine regs.StepOK.plain rfl fun L a w1 hh => ?_
    have h16 : a.tmps[16]?.getD undef = .bool true := by rw [← Array.getD_eq_getD_getElem?]; exact hh.dep 4 16 (by kernel_rfl) (by kernel_rfl)
    have hJ := Lib.hid hh.st
    clear hh
    go_simp
    exact ⟨_, rfl, regs.bl_refl _, rfl, hJ.out⟩
  · refine regs.StepOK.yes 5 true 17 rfl rfl (fun L a w1 hh => hh.dep 5 17 (by kernel_rfl) (by kernel_rfl)) fun L a w1 hh => ?_
    have h3 : a.tmps[3]?.getD undef = .pointer (some ⟨b3, 0, none⟩) := by rw [← Array.getD_eq_getD_getElem?]; exact hh.old 3 rfl
    have hB := Lib.hid (HP5.out.below' hh.rel)
    have hJ := Lib.hid hh.st
    exact wp_take 25 _ rfl b3 0 (by simpa [go_sem] using h3) _ hB.out ((plainE ev).cs A2 c2) rfl _ Try.underlying25 rfl (by kernel_rfl) ⟨_, rfl, regs.bl_refl _, rfl, hJ.out⟩
  · refine regs.StepOK.yes 5 true 17 rfl rfl (fun L a w1 hh => hh.dep 5 17 (by kernel_rfl) (by kernel_rfl)) fun L a w1 hh => ?_
    have h3 : a.tmps[3]?.getD undef = .pointer (some ⟨b3, 0, none⟩) := by rw [← Array.getD_eq_getD_getElem?]; exact hh.old 3 rfl
    have hB := Lib.hid (HP5.out.below' hh.rel)
    have hJ := Lib.hid hh.st
    exact wp_take 25 _ rfl b3 0 (by simpa [go_sem] using h3) _ hB.out ((plainE ev).cs A2 c2) rfl _ Try.underlying25 rfl (by kernel_rfl) ⟨_, rfl, regs.bl_refl _, rfl, hJ.out⟩
  · refine regs.StepOK.yes 5 true 17 rfl rfl (fun L a w1 hh => hh.dep 5 17 (by kernel_rfl) (by kernel_rfl)) fun L a w1 hh => ?_
    have h19 : a.tmps[19]?.getD undef = .agg ((plainE ev).cs A2 c2).toArray := by rw [← Array.getD_eq_getD_getElem?]; exact hh.dep 7 19 (by kernel_rfl) (by kernel_rfl)
    have hC := Lib.hid (FPP.out w1 hh.rel)
    have hJ := Lib.hid hh.st
    clear hh
    go_simp
    refine hC.out.mono ?_
    rintro e w9 ⟨A9, c9, rfl, ho9, hb9⟩
    exact ⟨_, rfl, hb9, ⟨A9, ⟨c9, rfl⟩, ho9⟩, hJ.out⟩
  · refine regs.StepOK.yes 5 true 17 rfl rfl (fun L a w1 hh => hh.dep 5 17 (by kernel_rfl) (by kernel_rfl)) fun L a w1 hh => ?_
    have h18 : a.tmps[18]?.getD undef = .agg ((plainE ev).cs A2 c2).toArray := by rw [← Array.getD_eq_getD_getElem?]; exact hh.dep 6 18 (by kernel_rfl) (by kernel_rfl)
    obtain ⟨A8, c8, e8, ho8⟩ := (show ∃ A9 c9, (a.tmps.getD 20 undef) = .agg ((plainE ev).cs A9 c9).toArray ∧ OpsE w1 0 A9 (plainE ev).os from hh.dep 8 20 (by kernel_rfl) (by kernel_rfl))
    have h20 : a.tmps[20]?.getD undef = .agg ((plainE ev).cs A8 c8).toArray := by rw [← Array.getD_eq_getD_getElem?]; exact e8
    have hC := Lib.hid (FEQ.out w1 hh.rel A8 c8 ho8)
    have hJ := Lib.hid hh.st
    clear hh
    go_simp
    refine hC.out.mono ?_
    rintro e w9 ⟨rfl, hb9⟩
    exact ⟨_, rfl, hb9, rfl, hJ.out⟩
  · refine regs.StepOK.plain rfl fun L a w1 hh => ?_
    have h17 : a.tmps[17]?.getD undef = .bool true := by rw [← Array.getD_eq_getD_getElem?]; exact hh.dep 5 17 (by kernel_rfl) (by kernel_rfl)
    have h21 : a.tmps[21]?.getD undef = .bool true := by rw [← Array.getD_eq_getD_getElem?]; exact hh.dep 9 21 (by kernel_rfl) (by kernel_rfl)
    have hJ := Lib.hid hh.st
    clear hh
    go_simp
    exact ⟨_, rfl, regs.bl_refl _, rfl, hJ.out⟩
  · refine regs.StepOK.plain rfl fun L a w1 hh => ?_
    have h22 : a.tmps[22]?.getD undef = .bool true := by rw [← Array.getD_eq_getD_getElem?]; exact hh.dep 10 22 (by kernel_rfl) (by kernel_rfl)
    have hJ := Lib.hid hh.st
    clear hh
    go_simp
    exact ⟨_, rfl, regs.bl_refl _, rfl, hJ.out⟩
  · refine regs.StepOK.yes 11 true 23 rfl rfl (fun L a w1 hh => hh.dep 11 23 (by kernel_rfl) (by kernel_rfl)) fun L a w1 hh => ?_
    have hC := Lib.hid (awake_any w1)
    have hJ := Lib.hid hh.st
    clear hh
    go_simp
    refine hC.out.mono ?_
    rintro e w9 ⟨rfl, hb9⟩
    exact ⟨_, rfl, hb9, rfl, hJ.out⟩
  · refine regs.StepOK.plain rfl fun L a w1 hh => ?_
    have h23 : a.tmps[23]?.getD undef = .bool true := by rw [← Array.getD_eq_getD_getElem?]; exact hh.dep 11 23 (by kernel_rfl) (by kernel_rfl)
    have h24 : a.tmps[24]?.getD undef = .bool true := by rw [← Array.getD_eq_getD_getElem?]; exact hh.dep 12 24 (by kernel_rfl) (by kernel_rfl)
    have hJ := Lib.hid hh.st
    clear hh
    go_simp
    exact ⟨_, rfl, regs.bl_refl _, rfl, hJ.out⟩
  · refine regs.StepOK.plain rfl fun L a w1 hh => ?_
    have h25 : a.tmps[25]?.getD undef = .bool true := by rw [← Array.getD_eq_getD_getElem?]; exact hh.dep 13 25 (by kernel_rfl) (by kernel_rfl)
    have hJ := Lib.hid hh.st
    clear hh
    go_simp
    exact ⟨_, rfl, regs.bl_refl _, rfl, hJ.out⟩
  intro L w7 val hL hJ hR hv
  have h2 : val 2 = .bool true := hv 14 2 (by kernel_rfl)
  have HR7 := Lib.hid hR
  clear hv hL hJ hR
  simp only [regs.putAll, List.map_cons, List.map_nil, h2]
  simp only [Act.put, List.setIfInBounds_toArray, List.set_cons_zero, List.set_cons_succ]
  clear h2
  generalize val 12 = v12 at *
  generalize val 13 = v13 at *
  generalize val 14 = v14 at *
  generalize val 15 = v15 at *
  generalize val 16 = v16 at *
  generalize val 17 = v17 at *
  generalize val 18 = v18 at *
  generalize val 19 = v19 at *
  generalize val 20 = v20 at *
  generalize val 21 = v21 at *
  generalize val 22 = v22 at *
  generalize val 23 = v23 at *
  generalize val 24 = v24 at *
  generalize val 25 = v25 at *
  have HB7 : Hid (Below w.heap.size w w7) := HB6.out.trans (HR7.out.mono HB6.out.size)
  go_wp2_with (fail)
  go_ret
  exact ⟨rfl, HB7.out⟩
end Go.Proofs.Ytgadheamldianaa
