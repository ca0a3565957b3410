/-
  Layer 10: the document's bytes of an image, whole.
-/
import Derived.Test.YtemlcibieeakiaaDoorImR
namespace Go.Proofs.YtemlcibieeakiaaDoor
open Go.RowKit pxm imm

set_option maxHeartbeats 4000000 in
set_option maxRecDepth 100000 in
theorem bytes_any (W H : Nat) (hW : W ≤ 4096) (hH : H ≤ 4096) (A : Option Addr) (l : List Nat) (c : Nat) (hl : ∀ z ∈ l, z < 4294967296) (hn : l.length ≤ 100000000) (w : World) (hr : Row eW w A l) :
    Calls Tryd.prog 23 #[imV (W : Nat) (H : Nat) A l.length c] w fun e w' => e = .returned (.string (crcs.strOf (sumL W H l))) ∧ Below w.heap.size w w' := by
  have he' : ∀ (args : Array Value) (w : World), (callFunc 38 args).run Tryd.prog w = .ok (.enter 38 args) w := enters_bytes1
  have HR := Lib.hid hr
  have HL := Lib.hid hl
  have HBW := Lib.hid (fun w => bytes1_any W (by omega) w)
  have HBH := Lib.hid (fun w => bytes1_any H (by omega) w)
  have HBZ := Lib.hid (fun z hz w => bytes1_any z hz w)
  have HAD : Hid (∀ w', (Op.stringOp .add (crcs.strOf (le4 W)) (crcs.strOf (le4 H))).run Tryd.prog w' = .ok (.string (crcs.strOf (sumL W H (l.take 0)))) w') := fun w' => by
    rw [run_string_add_sum w' _ _ (by rw [crcs.strOf_size, crcs.strOf_size]; simp [le4]), strOf_app (le4_are (by omega)) (le4_are (by omega))]
    simp [sumL]
  have HST : Hid (∀ k (h : k < l.length) w', (Op.stringOp .add (crcs.strOf (sumL W H (l.take k))) (crcs.strOf (le4 l[k]))).run Tryd.prog w' = .ok (.string (crcs.strOf (sumL W H (l.take (k + 1))))) w') := fun k h w' => by
    rw [run_string_add_sum w' _ _ (by rw [crcs.strOf_size, crcs.strOf_size, sumL_len, List.length_take, le4_len]; omega), strOf_app (sumL_are (by omega) (by omega) (fun z hz => hl z (List.mem_of_mem_take hz))) (le4_are (hl _ (List.getElem_mem h))), sumL_take _ _ _ h]
  have HSA : Hid (sumL W H (l.take l.length) = sumL W H l) := by show _ = _; rw [List.take_length]
  have HQ1 : Hid (IntKind.u32.wrap (W : Int) = (W : Nat)) := by show _ = _; simp [IntKind.wrap, IntKind.bits, IntKind.signed]; omega
  have HQ2 : Hid (IntKind.u32.wrap (H : Int) = (H : Nat)) := by show _ = _; simp [IntKind.wrap, IntKind.bits, IntKind.signed]; omega
  have hn3 : l.length ≤ 9223372036854775807 := by omega
  clear hr hl hn hW hH
  obtain ⟨s0, hs0⟩ : ∃ x, crcs.strOf (sumL W H (l.take 0)) = x := ⟨_, rfl⟩
  have HS0 := Lib.hid hs0
  rw [hs0] at HAD
  clear hs0
  generalize crcs.strOf (le4 W) = sW at *
  generalize crcs.strOf (le4 H) = sH at *
  unfold imV
  go_enter Tryd.func23, Tryd.ntmps23
  go_wp2_with (fail)
  have HB1 : Hid (Below w.heap.size w (w.alloc (.cells #[.int .i64 (W : Nat), .int .i64 (H : Nat), .slice A l.length c] 24))) := (Below.refl _ _).alloc (Nat.le_refl _) _
  have HJ1 : Hid (JBs [(w.heap.size, [.int .i64 (W : Nat), .int .i64 (H : Nat), .slice A l.length c])] (w.alloc (.cells #[.int .i64 (W : Nat), .int .i64 (H : Nat), .slice A l.length c] 24))) := ⟨blk_new w [.int .i64 (W : Nat), .int .i64 (H : Nat), .slice A l.length c] _, trivial⟩
  generalize w.alloc (.cells #[.int .i64 (W : Nat), .int .i64 (H : Nat), .slice A l.length c] 24) = w1 at *
  refine regs.wp_region_put (regs.bl) (fun _ wx => JBs [(w.heap.size, [.int .i64 (W : Nat), .int .i64 (H : Nat), .slice A l.length c])] wx) [7, 8, 9, 10, 11, 12, 13, 14, 15, 16, 17, 4] (by kernel_rfl) (by kernel_rfl) (fun _ => regs.bl_refl _) (regs.bl_trans) (fun i => (match i with
    | 0 => regs.Say.val _ (.func (.func 38) #[] #[])
    | 1 => regs.Say.val _ (.pointer (some ⟨w.heap.size, 0, none⟩))
    | 2 => regs.Say.val _ (.int .i64 (W : Nat))
    | 3 => regs.Say.val _ (.int .u32 (W : Nat))
    | 4 => regs.Say.val _ (.string sW)
    | 5 => regs.Say.val _ (.func (.func 38) #[] #[])
    | 6 => regs.Say.val _ (.pointer (some ⟨w.heap.size, 1, none⟩))
    | 7 => regs.Say.val _ (.int .i64 (H : Nat))
    | 8 => regs.Say.val _ (.int .u32 (H : Nat))
    | 9 => regs.Say.val _ (.string sH)
    | 10 => regs.Say.val _ (.string s0)
    | 11 => regs.Say.val _ (.string s0)
    | _ => regs.Say.any _ : regs.Say (regs.bl)).p) (fun _ => regs.Say.mono _) (by kernel_rfl) ((Below.refl _ _).drew) (HJ1.out) ⟨?_, ?_, ?_, ?_, ?_, ?_, ?_, ?_, ?_, ?_, ?_, ?_, trivial⟩ ?_
  · refine regs.StepOK.plain rfl fun L a w1 hh => ?_
    have h3 : a.tmps[3]?.getD undef = .func (.func 38) #[] #[] := by rw [← Array.getD_eq_getD_getElem?]; exact hh.old 3 rfl
    have hJ := Lib.hid hh.st
    clear hh
    go_simp
    exact ⟨_, rfl, regs.bl_refl _, rfl, hJ.out⟩
  · refine regs.StepOK.plain rfl fun L a w1 hh => ?_
    have h1 : a.tmps[1]?.getD undef = .pointer (some ⟨w.heap.size, 0, none⟩) := by rw [← Array.getD_eq_getD_getElem?]; exact hh.old 1 rfl
    have hJ := Lib.hid hh.st
    clear hh
    go_simp
    exact ⟨_, rfl, regs.bl_refl _, rfl, hJ.out⟩
  · refine regs.StepOK.plain rfl fun L a w1 hh => ?_
    have h8 : a.tmps[8]?.getD undef = .pointer (some ⟨w.heap.size, 0, none⟩) := by rw [← Array.getD_eq_getD_getElem?]; exact hh.dep 1 8 (by kernel_rfl) (by kernel_rfl)
    obtain ⟨⟨c0, c1, c2⟩, -, ci⟩ := (hh.st.1).c3
    have hJ := Lib.hid hh.st
    clear hh
    go_simp
    exact ⟨_, rfl, regs.bl_refl _, rfl, hJ.out⟩
  · refine regs.StepOK.plain rfl fun L a w1 hh => ?_
    have h9 : a.tmps[9]?.getD undef = .int .i64 (W : Nat) := by rw [← Array.getD_eq_getD_getElem?]; exact hh.dep 2 9 (by kernel_rfl) (by kernel_rfl)
    have q := HQ1.out
    have hJ := Lib.hid hh.st
    clear hh
    go_simp
    exact ⟨_, rfl, regs.bl_refl _, rfl, hJ.out⟩
  · refine regs.StepOK.plain rfl fun L a w1 hh => ?_
    have h7 : a.tmps[7]?.getD undef = .func (.func 38) #[] #[] := by rw [← Array.getD_eq_getD_getElem?]; exact hh.dep 0 7 (by kernel_rfl) (by kernel_rfl)
    have h10 : a.tmps[10]?.getD undef = .int .u32 (W : Nat) := by rw [← Array.getD_eq_getD_getElem?]; exact hh.dep 3 10 (by kernel_rfl) (by kernel_rfl)
    have t := True.intro
    have hJ := Lib.hid hh.st
    clear hh
    go_simp
    refine (HBW.out w1).mono ?_
    rintro e w9 ⟨rfl, hb9⟩
    exact ⟨_, rfl, hb9, rfl, JBs.below hJ.out hb9⟩
  · refine regs.StepOK.plain rfl fun L a w1 hh => ?_
    have h3 : a.tmps[3]?.getD undef = .func (.func 38) #[] #[] := by rw [← Array.getD_eq_getD_getElem?]; exact hh.old 3 rfl
    have hJ := Lib.hid hh.st
    clear hh
    go_simp
    exact ⟨_, rfl, regs.bl_refl _, rfl, hJ.out⟩
  · refine regs.StepOK.plain rfl fun L a w1 hh => ?_
    have h1 : a.tmps[1]?.getD undef = .pointer (some ⟨w.heap.size, 0, none⟩) := by rw [← Array.getD_eq_getD_getElem?]; exact hh.old 1 rfl
    have hJ := Lib.hid hh.st
    clear hh
    go_simp
    exact ⟨_, rfl, regs.bl_refl _, rfl, hJ.out⟩
  · refine regs.StepOK.plain rfl fun L a w1 hh => ?_
    have h13 : a.tmps[13]?.getD undef = .pointer (some ⟨w.heap.size, 1, none⟩) := by rw [← Array.getD_eq_getD_getElem?]; exact hh.dep 6 13 (by kernel_rfl) (by kernel_rfl)
    obtain ⟨⟨c0, c1, c2⟩, -, ci⟩ := (hh.st.1).c3
    have hJ := Lib.hid hh.st
    clear hh
    go_simp
    exact ⟨_, rfl, regs.bl_refl _, rfl, hJ.out⟩
  · refine regs.StepOK.plain rfl fun L a w1 hh => ?_
    have h14 : a.tmps[14]?.getD undef = .int .i64 (H : Nat) := by rw [← Array.getD_eq_getD_getElem?]; exact hh.dep 7 14 (by kernel_rfl) (by kernel_rfl)
    have q := HQ2.out
    have hJ := Lib.hid hh.st
    clear hh
    go_simp
    exact ⟨_, rfl, regs.bl_refl _, rfl, hJ.out⟩
  · refine regs.StepOK.plain rfl fun L a w1 hh => ?_
    have h12 : a.tmps[12]?.getD undef = .func (.func 38) #[] #[] := by rw [← Array.getD_eq_getD_getElem?]; exact hh.dep 5 12 (by kernel_rfl) (by kernel_rfl)
    have h15 : a.tmps[15]?.getD undef = .int .u32 (H : Nat) := by rw [← Array.getD_eq_getD_getElem?]; exact hh.dep 8 15 (by kernel_rfl) (by kernel_rfl)
    have t := True.intro
    have hJ := Lib.hid hh.st
    clear hh
    go_simp
    refine (HBH.out w1).mono ?_
    rintro e w9 ⟨rfl, hb9⟩
    exact ⟨_, rfl, hb9, rfl, JBs.below hJ.out hb9⟩
  · refine regs.StepOK.plain rfl fun L a w1 hh => ?_
    have h11 : a.tmps[11]?.getD undef = .string sW := by rw [← Array.getD_eq_getD_getElem?]; exact hh.dep 4 11 (by kernel_rfl) (by kernel_rfl)
    have h16 : a.tmps[16]?.getD undef = .string sH := by rw [← Array.getD_eq_getD_getElem?]; exact hh.dep 9 16 (by kernel_rfl) (by kernel_rfl)
    have hadd := HAD.out
    have hJ := Lib.hid hh.st
    clear hh
    go_simp
    exact ⟨_, rfl, regs.bl_refl _, rfl, hJ.out⟩
  · refine regs.StepOK.plain rfl fun L a w1 hh => ?_
    have h17 : a.tmps[17]?.getD undef = .string s0 := by rw [← Array.getD_eq_getD_getElem?]; exact hh.dep 10 17 (by kernel_rfl) (by kernel_rfl)
    have hJ := Lib.hid hh.st
    clear hh
    go_simp
    exact ⟨_, rfl, regs.bl_refl _, rfl, hJ.out⟩
  intro L w5 val hL hJ hR hv
  have h4 : val 4 = .string s0 := hv 11 4 (by kernel_rfl)
  have HK5 := Lib.hid hJ
  have HR5 := Lib.hid hR
  clear hv hL hJ hR
  simp only [regs.putAll, List.map_cons, List.map_nil]
  rw [h4]
  generalize val 7 = v7
  generalize val 8 = v8
  generalize val 9 = v9
  generalize val 10 = v10
  generalize val 11 = v11
  generalize val 12 = v12
  generalize val 13 = v13
  generalize val 14 = v14
  generalize val 15 = v15
  generalize val 16 = v16
  generalize val 17 = v17
  simp only [Act.put, List.setIfInBounds_toArray, List.set_cons_zero, List.set_cons_succ]
  clear h4
  have HB5 : Hid (Below w.heap.size w w5) := HB1.out.trans (HR5.out.mono HB1.out.size)
  have K5 : Hid (Blk w5 w.heap.size [.int .i64 (W : Nat), .int .i64 (H : Nat), .slice A l.length c]) := HK5.out.1
  clear HJ1 HK5 HR5 HB1 HAD HBW HBH HQ1 HQ2
  obtain ⟨⟨c0, c1, c2⟩, -, ci⟩ := K5.out.c3
  go_wp2_with (fail)
  clear c0 c1 c2 ci K5
  go_loopw [4, 21] (fun s i wr => ∃ k : Nat, k ≤ l.length ∧ i = .int .i64 k ∧ s = .string (crcs.strOf (sumL W H (l.take k))) ∧ Hid (Below w.heap.size w wr)) (fun _ i _ => l.length - (intOf i).toNat)
  case atStart => exact ⟨0, Nat.zero_le _, rfl, by rw [HS0.out], HB5.out⟩
  case round =>
    obtain ⟨k, hk, rfl, rfl, HB⟩ := hrel
    clear HB5 HS0
    by_cases hlt : k < l.length
    · have t : decide (k < l.length) = true := by simpa using hlt
      obtain ⟨b, off, eA, hc⟩ := (HR.out.below HB.out).at_ hlt
      subst eA
      have hz := HL.out _ (List.getElem_mem hlt)
      have hbw : b < wr.heap.size := World.block_lt_of_cell? wr ⟨b, _, none⟩ hc
      have HF := Lib.hid (fun w => HBZ.out l[k] hz w)
      have hadd := HST.out k hlt
      obtain ⟨s2, hs2⟩ : ∃ x, crcs.strOf (sumL W H (l.take (k + 1))) = x := ⟨_, rfl⟩
      have HS2 := Lib.hid hs2
      rw [hs2] at hadd
      clear hs2 hz
      unfold eW at hc
      generalize crcs.strOf (sumL W H (l.take k)) = s1 at *
      generalize crcs.strOf (le4 l[k]) = s3 at *
      generalize l[k] = z at *
      go_wp2_with (fail)
      refine (HF.out _).mono ?_
      rintro e w4 ⟨rfl, hb⟩
      have HB4 : Hid (Below w.heap.size w w4) := HB.out.trans (hb.mono HB.out.size)
      clear hb HF hc hbw
      go_wp2_with (fail)
      go_roundw
      case rel => exact ⟨k + 1, by omega, by go_num, by rw [HS2.out], HB4⟩
      case measure => simp [intOf]; omega
    · obtain rfl : k = l.length := by omega
      have t : decide (l.length < l.length) = false := by simp
      have hs := HSA.out
      have HSE : Hid (crcs.strOf (sumL W H (l.take l.length)) = crcs.strOf (sumL W H l)) := by show _ = _; rw [hs]
      clear hs HST
      generalize crcs.strOf (sumL W H (l.take l.length)) = s1 at *
      go_wp2_with (fail)
      go_ret
      exact ⟨congrArg (fun x => Ending.returned (Value.string x)) HSE.out, HB.out⟩
end Go.Proofs.YtemlcibieeakiaaDoor
