/-
  The document's own: the bytes of a right record.
-/
import Derived.Test.YtoipokjoklhfjaaDoorRcK
namespace Go.Proofs.YtoipokjoklhfjaaDoor
open Go.RowKit numb

set_option maxRecDepth 100000 in
set_option maxHeartbeats 4000000 in
theorem dbytes_any (k : Nat) (d : List Nat) (w : World) (hk : k < 256) (hd : AreBytes d) (hl : d.length ≤ 5000) :
    Calls Tryd.prog 12 #[.agg #[.int .i64 (k : Nat), .string (strOf d)]] w fun e w' => e = .returned (.string (strOf (recB k d))) ∧ Below w.heap.size w w' := by
  obtain ⟨S, hS⟩ : ∃ S, S = strOf d := ⟨_, rfl⟩
  have hsz : S.size = d.length := by rw [hS, strOf_size]
  have HSZ : Hid (S.size = d.length) := hsz
  have hul := uint_length_le (v := S.size) (k := 10) (by omega) (by omega)
  have E7 : Hid (IntKind.u64.wrap (S.size : Int) = (S.size : Int)) := by show _ = _; exact IntWalk.u64_in _ (by omega)
  have E11 : Hid (IntKind.u8.wrap (k : Int) = (k : Int)) := by show _ = _; exact IntWalk.u8_in _ (by omega)
  have hkb : AreBytes [k] := fun y hy => by simp at hy; omega
  have E14 : Hid (strOf (uint S.size) ++ strOf [k] = strOf (headB k d.length)) := by
    show _ = _
    rw [strOf_append (uint_bytes _) hkb, hsz]
    rfl
  have E17 : Hid (strOf (headB k d.length) ++ S = strOf (headB k d.length ++ d)) := by
    show _ = _
    rw [hS, strOf_append (headB_are hk) hd]
  have Z14 : Hid (¬ 9223372036854775807 < (strOf (uint S.size)).size + (strOf [k]).size) := by
    show ¬ _ < _
    rw [strOf_size, strOf_size]
    simp only [List.length_cons, List.length_nil]
    omega
  have hhl := headB_le (kind := k) (n := d.length) (by unfold U64; omega)
  have Z17 : Hid (¬ 9223372036854775807 < (strOf (headB k d.length)).size + S.size) := by
    show ¬ _ < _
    rw [strOf_size]
    omega
  have HSU : Hid (∀ W, Calls Tryd.prog 21 #[.string (strOf (headB k d.length ++ d))] W fun e w' => e = .returned (.string (strOf (sumB (headB k d.length ++ d)))) ∧ Below W.heap.size W w') := fun W => by
    have := dsum_any (strOf (headB k d.length ++ d)) W (by rw [strOf_size, List.length_append]; unfold maxLen; omega)
    rwa [natsOf_strOf ((headB_are hk).append hd)] at this
  have EF : Hid (strOf (headB k d.length ++ d) ++ strOf (sumB (headB k d.length ++ d)) = strOf (recB k d)) := by
    show _ = _
    rw [strOf_append ((headB_are hk).append hd) (sumB_are _)]
    rfl
  have ZF : Hid ((strOf (headB k d.length ++ d)).size + (strOf (sumB (headB k d.length ++ d))).size ≤ 9223372036854775807) := by
    show _ ≤ _
    rw [strOf_size, strOf_size, sumB_length, List.length_append]
    omega
  have HU := Lib.hid (fun w => ref_uint_any (S.size + 1) S.size w (by omega) (by unfold U64; omega))
  have BA : Hid (Below w.heap.size w (w.alloc (.cells #[.int .i64 (k : Nat), .string S] 30))) := (Below.refl _ _).alloc (Nat.le_refl _) _
  have KA : Hid (Blk2 (w.alloc (.cells #[.int .i64 (k : Nat), .string S] 30)) w.heap.size [.int .i64 (k : Nat), .string S]) := blk2_new w _ _
  rw [← hS]
  obtain ⟨T1, hT1⟩ : ∃ T, T = strOf (headB k d.length) := ⟨_, rfl⟩
  obtain ⟨T2, hT2⟩ : ∃ T, T = strOf (headB k d.length ++ d) := ⟨_, rfl⟩
  obtain ⟨T3, hT3⟩ : ∃ T, T = strOf (sumB (headB k d.length ++ d)) := ⟨_, rfl⟩
  rw [← hT1] at E14 E17 Z17
  rw [← hT2] at E17 HSU EF ZF
  rw [← hT3] at HSU EF ZF
  clear hS hsz hul hhl hT1 hT2 hT3 hkb
  go_enter Tryd.func12, Tryd.ntmps12
  go_wp2_with (fail)
  obtain ⟨g, hg⟩ : ∃ g, g = w.heap.size := ⟨_, rfl⟩
  rw [← hg] at KA ⊢
  generalize w.alloc (.cells #[.int .i64 (k : Nat), .string S] 30) = wA at *
  have hgl : g < wA.heap.size := World.block_lt_of_cell? wA _ (KA.out.cell2 0)
  clear hg
  refine regs.wp_region_put (regs.bl) (regs.noJ) [4, 5, 6, 7, 8, 9, 10, 11, 12, 13, 14, 15, 16, 17, 3] (by kernel_rfl) (by kernel_rfl) (fun _ => regs.bl_refl _) (regs.bl_trans) (fun i => (match i with
    | 0 => regs.Say.val _ (.pointer (some ⟨g, 1, none⟩))
    | 1 => regs.Say.val _ (.string S)
    | 2 => regs.Say.val _ (.int .i64 (S.size : Nat))
    | 3 => regs.Say.val _ (.int .u64 (S.size : Nat))
    | 4 => regs.Say.val _ (.string (strOf (uint S.size)))
    | 5 => regs.Say.val _ (.pointer (some ⟨g, 0, none⟩))
    | 6 => regs.Say.val _ (.int .i64 (k : Nat))
    | 7 => regs.Say.val _ (.int .u8 (k : Nat))
    | 8 => regs.Say.one (.int .u8 k)
    | 9 => regs.Say.val _ (.string (strOf [k]))
    | 10 => regs.Say.val _ (.string T1)
    | 11 => regs.Say.val _ (.pointer (some ⟨g, 1, none⟩))
    | 12 => regs.Say.val _ (.string S)
    | 13 => regs.Say.val _ (.string T2)
    | 14 => regs.Say.val _ (.string T2)
    | _ => regs.Say.any _ : regs.Say (regs.bl)).p) (fun _ => regs.Say.mono _) (by kernel_rfl) ((Below.refl _ _).drew) (regs.noJ_ok _ _) ⟨?_, ?_, ?_, ?_, ?_, ?_, ?_, ?_, ?_, ?_, ?_, ?_, ?_, ?_, ?_, trivial⟩ ?_
  · refine regs.StepOK.plain rfl fun L a w1 hh => ?_
    have h1 : a.tmps[1]?.getD undef = .pointer (some ⟨g, 0, none⟩) := by rw [← Array.getD_eq_getD_getElem?]; exact hh.old 1 rfl
    have hJ := Lib.hid hh.st
    clear hh
    go_simp
    exact ⟨_, rfl, regs.bl_refl _, rfl, hJ.out⟩
  · refine regs.StepOK.plain rfl fun L a w1 hh => ?_
    have h4 : a.tmps[4]?.getD undef = .pointer (some ⟨g, 1, none⟩) := by rw [← Array.getD_eq_getD_getElem?]; exact hh.dep 0 4 (by kernel_rfl) (by kernel_rfl)
    have hr := (show Below wA.heap.size wA w1 from hh.rel)
    have q1 := (hr.cell (p := ⟨g, 1, none⟩) hgl).trans (KA.out.cell2 1)
    have hJ := Lib.hid hh.st
    clear hh
    go_simp
    exact ⟨_, rfl, regs.bl_refl _, rfl, hJ.out⟩
  · refine regs.StepOK.plain rfl fun L a w1 hh => ?_
    have h5 : a.tmps[5]?.getD undef = .string S := by rw [← Array.getD_eq_getD_getElem?]; exact hh.dep 1 5 (by kernel_rfl) (by kernel_rfl)
    have hJ := Lib.hid hh.st
    clear hh
    go_simp
    exact ⟨_, rfl, regs.bl_refl _, rfl, hJ.out⟩
  · refine regs.StepOK.plain rfl fun L a w1 hh => ?_
    have h6 : a.tmps[6]?.getD undef = .int .i64 (S.size : Nat) := by rw [← Array.getD_eq_getD_getElem?]; exact hh.dep 2 6 (by kernel_rfl) (by kernel_rfl)
    have e7 := E7.out
    have hJ := Lib.hid hh.st
    clear hh
    go_simp
    exact ⟨_, rfl, regs.bl_refl _, rfl, hJ.out⟩
  · refine regs.StepOK.plain rfl fun L a w1 hh => ?_
    have h7 : a.tmps[7]?.getD undef = .int .u64 (S.size : Nat) := by rw [← Array.getD_eq_getD_getElem?]; exact hh.dep 3 7 (by kernel_rfl) (by kernel_rfl)
    have hr := (show Below wA.heap.size wA w1 from hh.rel)
    have hJ := Lib.hid hh.st
    clear hh
    go_simp
    refine (HU.out w1).mono ?_
    rintro r w2 ⟨rfl, hb⟩
    exact ⟨_, rfl, hb, rfl, hJ.out⟩
  · refine regs.StepOK.plain rfl fun L a w1 hh => ?_
    have h1 : a.tmps[1]?.getD undef = .pointer (some ⟨g, 0, none⟩) := by rw [← Array.getD_eq_getD_getElem?]; exact hh.old 1 rfl
    have hJ := Lib.hid hh.st
    clear hh
    go_simp
    exact ⟨_, rfl, regs.bl_refl _, rfl, hJ.out⟩
  · refine regs.StepOK.plain rfl fun L a w1 hh => ?_
    have h9 : a.tmps[9]?.getD undef = .pointer (some ⟨g, 0, none⟩) := by rw [← Array.getD_eq_getD_getElem?]; exact hh.dep 5 9 (by kernel_rfl) (by kernel_rfl)
    have hr := (show Below wA.heap.size wA w1 from hh.rel)
    have q0 := (hr.cell (p := ⟨g, 0, none⟩) hgl).trans (KA.out.cell2 0)
    have hJ := Lib.hid hh.st
    clear hh
    go_simp
    exact ⟨_, rfl, regs.bl_refl _, rfl, hJ.out⟩
  · refine regs.StepOK.plain rfl fun L a w1 hh => ?_
    have h10 : a.tmps[10]?.getD undef = .int .i64 (k : Nat) := by rw [← Array.getD_eq_getD_getElem?]; exact hh.dep 6 10 (by kernel_rfl) (by kernel_rfl)
    have e11 := E11.out
    have hJ := Lib.hid hh.st
    clear hh
    go_simp
    exact ⟨_, rfl, regs.bl_refl _, rfl, hJ.out⟩
  · refine regs.StepOK.plain rfl fun L a w1 hh => ?_
    have h11 : a.tmps[11]?.getD undef = .int .u8 (k : Nat) := by rw [← Array.getD_eq_getD_getElem?]; exact hh.dep 7 11 (by kernel_rfl) (by kernel_rfl)
    have hJ := Lib.hid hh.st
    clear hh
    go_simp
    exact ⟨_, rfl, (Below.refl _ _).alloc (Nat.le_refl _) _, ⟨_, rfl, cell_of_row _ _ 0 _ _ _ (heap_alloc_new w1 _)⟩, hJ.out⟩
  · refine regs.StepOK.plain rfl fun L a w1 hh => ?_
    obtain ⟨gg, h12, hcell⟩ : ∃ gg, a.tmps[12]?.getD undef = .slice (some ⟨gg, 0, none⟩) 1 1 ∧ w1.cell? ⟨gg, 0, none⟩ = some (.int .u8 k) := by rw [← Array.getD_eq_getD_getElem?]; exact hh.dep 8 12 (by kernel_rfl) (by kernel_rfl)
    have hc := conv_str w1 (some ⟨gg, 0, none⟩) [k] 1 (row_cell hcell)
    simp only [List.length_cons, List.length_nil, Nat.zero_add] at hc
    have hJ := Lib.hid hh.st
    clear hh
    go_simp
    exact ⟨_, rfl, regs.bl_refl _, rfl, hJ.out⟩
  · refine regs.StepOK.plain rfl fun L a w1 hh => ?_
    have h8 : a.tmps[8]?.getD undef = .string (strOf (uint S.size)) := by rw [← Array.getD_eq_getD_getElem?]; exact hh.dep 4 8 (by kernel_rfl) (by kernel_rfl)
    have h13 : a.tmps[13]?.getD undef = .string (strOf [k]) := by rw [← Array.getD_eq_getD_getElem?]; exact hh.dep 9 13 (by kernel_rfl) (by kernel_rfl)
    have e14 := E14.out
    have z14 := Z14.out
    have hJ := Lib.hid hh.st
    clear hh
    go_simp
    exact ⟨_, rfl, regs.bl_refl _, rfl, hJ.out⟩
  · refine regs.StepOK.plain rfl fun L a w1 hh => ?_
    have h1 : a.tmps[1]?.getD undef = .pointer (some ⟨g, 0, none⟩) := by rw [← Array.getD_eq_getD_getElem?]; exact hh.old 1 rfl
    have hJ := Lib.hid hh.st
    clear hh
    go_simp
    exact ⟨_, rfl, regs.bl_refl _, rfl, hJ.out⟩
  · refine regs.StepOK.plain rfl fun L a w1 hh => ?_
    have h15 : a.tmps[15]?.getD undef = .pointer (some ⟨g, 1, none⟩) := by rw [← Array.getD_eq_getD_getElem?]; exact hh.dep 11 15 (by kernel_rfl) (by kernel_rfl)
    have hr := (show Below wA.heap.size wA w1 from hh.rel)
    have q1 := (hr.cell (p := ⟨g, 1, none⟩) hgl).trans (KA.out.cell2 1)
    have hJ := Lib.hid hh.st
    clear hh
    go_simp
    exact ⟨_, rfl, regs.bl_refl _, rfl, hJ.out⟩
  · refine regs.StepOK.plain rfl fun L a w1 hh => ?_
    have h14 : a.tmps[14]?.getD undef = .string T1 := by rw [← Array.getD_eq_getD_getElem?]; exact hh.dep 10 14 (by kernel_rfl) (by kernel_rfl)
    have h16 : a.tmps[16]?.getD undef = .string S := by rw [← Array.getD_eq_getD_getElem?]; exact hh.dep 12 16 (by kernel_rfl) (by kernel_rfl)
    have e17 := E17.out
    have z17 := Z17.out
    have hJ := Lib.hid hh.st
    clear hh
    go_simp
    exact ⟨_, rfl, regs.bl_refl _, rfl, hJ.out⟩
  · refine regs.StepOK.plain rfl fun L a w1 hh => ?_
    have h17 : a.tmps[17]?.getD undef = .string T2 := by rw [← Array.getD_eq_getD_getElem?]; exact hh.dep 13 17 (by kernel_rfl) (by kernel_rfl)
    have hJ := Lib.hid hh.st
    clear hh
    go_simp
    exact ⟨_, rfl, regs.bl_refl _, rfl, hJ.out⟩
  intro L w3 val hL hJ hb hf
  have h3 : val 3 = .string T2 := hf 14 3 (by kernel_rfl)
  have hbb : Below wA.heap.size wA w3 := hb
  have HB2 : Hid (Below w.heap.size w w3) := BA.out.trans (hbb.mono BA.out.size)
  clear hf hb hJ hL hbb
  simp only [regs.putAll, List.map_cons, List.map_nil]
  rw [h3]
  clear h3
  go_wp2_with (fail)
  refine (HSU.out w3).mono ?_
  rintro e w4 ⟨rfl, hb4⟩
  have HB3 : Hid (Below w.heap.size w w4) := HB2.out.trans (hb4.mono HB2.out.size)
  have hadd : ∀ w', (Op.stringOp .add T2 T3).run Tryd.prog w' = .ok (.string (T2 ++ T3)) w' := fun w' => run_string_add_sum w' _ _ ZF.out
  rw [EF.out] at hadd
  clear hb4
  go_wp2_with (fail)
  go_ret
  exact ⟨rfl, HB3.out⟩
end Go.Proofs.YtoipokjoklhfjaaDoor
