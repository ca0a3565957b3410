/-
  Layer 12: the law's play.do: a call on a tree, and on the document's.
-/
import Derived.Test.YtokochkjjlbnkaaTtA
namespace Go.Proofs.Ytokochkjjlbnkaa
open Go.RowKit trm

section
variable {w : World} {g b : Nat} {s : Sh} {v : Value} {t : T}
def PlayQ (g b : Nat) (s : Sh) (t t' : T) (w : World) (e : Ending) (w' : World) : Prop :=
  ∃ s' v', e = .returned (.bool true) ∧ PlayAt w' g b s' v' t' ∧ TurnP (PFoot g b s t) (PFoot g b s' t') w w'
theorem remS_len (ok : Ok t) (i : Int) : (remS t i).2.1.length ≤ t.length + 1 := by
  unfold remS
  by_cases h1 : i = 0
  · rw [if_pos h1]; exact Nat.zero_le _
  rw [if_neg h1]
  by_cases h2 : has t i = false
  · rw [if_pos h2]; exact Nat.zero_le _
  rw [if_neg h2]
  exact walk_le ok (.inr ((has_iff.1 (by simpa using h2)).resolve_left h1))
set_option maxRecDepth 100000 in
set_option maxHeartbeats 4000000 in
theorem do_add (h : PlayAt w g b s v t) (hn : t.length ≤ 1000) (ci p n : Int) (hi : I64 ci) (hp : I64 p) :
    Calls Try.prog 11 #[.pointer (some ⟨g, 0, none⟩), .agg #[.int .i64 1, .int .i64 ci, .int .i64 p, .int .i64 n]] w (PlayQ g b s t (addS t ci p n).1 w) := by
  obtain ⟨R, hR⟩ : ∃ R, addS t ci p n = R := ⟨_, rfl⟩
  rw [hR]
  obtain ⟨A, c, rfl, hdr, hdy⟩ := h.doc
  have HP := Lib.hid h
  have HN := Lib.hid hn
  obtain ⟨w0, hw0⟩ : ∃ w0, w0 = w.alloc (.cells #[.int .i64 1, .int .i64 ci, .int .i64 p, .int .i64 n] tOp) := ⟨_, rfl⟩
  have hb0 : Below w.heap.size w w0 := by rw [hw0]; exact (Below.refl _ _).alloc (Nat.le_refl _) _
  have hx0 : BlkT w0 w.heap.size [.int .i64 1, .int .i64 ci, .int .i64 p, .int .i64 n] tOp := by rw [hw0]; exact BlkT.new w _ _
  have HB0 := Lib.hid hb0
  have HX0 := Lib.hid hx0
  have HP0 := Lib.hid (h.below hb0)
  have FC : Hid (∀ W, regs.bl w0 W → DoF W g b w.heap.size (.slice A t.length c) 1 ci p n) := fun W hb => DoF.of (HP0.out.below hb).blk (HX0.out.stays (hb.block _ HX0.out.inside))
  have HC : Hid (∀ W, regs.bl w0 W → Calls Try.prog 34 #[.slice A t.length c, .int .i64 ci, .int .i64 p, .int .i64 n] W (AddQ R W)) := fun W hb => by
    rw [← hR]
    exact dadd _ t ci p n W (HP0.out.below hb).doc HN.out
  have HCT : Hid (∀ W, TreeAt W b s t → Calls Try.prog 31 #[.pointer (some ⟨b, 0, none⟩), .int .i64 ci, .int .i64 p, .int .i64 n] W (DoQ b s t R W)) := fun W hT => by
    rw [← hR]
    exact tadd hT hn ci p n hi hp
  have HW0 := Lib.hid hw0
  unfold AddQ at HC
  unfold DoQ at HCT
  clear hR h hn hdr hdy hw0 hb0 hx0 hi hp
  go_enter Try.func11, Try.ntmps11
  go_wp2_with (fail)
  rw [← HW0.out]
  clear HW0
  refine regs.wp_region_put (regs.bl) (regs.noJ) [19, 20, 21, 22, 23, 24, 25, 26, 27, 28, 29, 18, 30, 31, 5, 6] (by kernel_rfl) (by kernel_rfl) (fun _ => regs.bl_refl _) (regs.bl_trans) (fun i => (match i with
    | 0 => regs.Say.val _ (.pointer (some ⟨g, 0, none⟩))
    | 1 => regs.Say.val _ (.pointer (some ⟨g, 0, none⟩))
    | 2 => regs.Say.val _ (.pointer (some ⟨g, 1, none⟩))
    | 3 => regs.Say.val _ (.slice A t.length c)
    | 4 => regs.Say.val _ (.pointer (some ⟨w.heap.size, 1, none⟩))
    | 5 => regs.Say.val _ (.int .i64 ci)
    | 6 => regs.Say.val _ (.pointer (some ⟨w.heap.size, 2, none⟩))
    | 7 => regs.Say.val _ (.int .i64 p)
    | 8 => regs.Say.val _ (.pointer (some ⟨w.heap.size, 3, none⟩))
    | 9 => regs.Say.val _ (.int .i64 n)
    | 10 => sayAdd R
    | 11 => sayAdd R
    | 12 => sayD R.1
    | 13 => regs.Say.val _ (.int .i64 R.2)
    | 14 => sayD R.1
    | 15 => regs.Say.val _ (.int .i64 R.2)
    | _ => regs.Say.any _ : regs.Say (regs.bl)).p) (fun _ => regs.Say.mono _) (by kernel_rfl) ((Below.refl _ _).drew) (regs.noJ_ok _ _) ⟨?_, ?_, ?_, ?_, ?_, ?_, ?_, ?_, ?_, ?_, ?_, ?_, ?_, ?_, ?_, ?_, trivial⟩ ?_
  · refine regs.StepOK.plain rfl fun L a w1 hh => ?_
    have h0 : a.tmps[0]?.getD undef = .pointer (some ⟨g, 0, none⟩) := by rw [← Array.getD_eq_getD_getElem?]; exact hh.old 0 rfl
    have hJ := Lib.hid hh.st
    clear hh
    go_simp
    exact ⟨_, rfl, regs.bl_refl _, rfl, hJ.out⟩
  · refine regs.StepOK.plain rfl fun L a w1 hh => ?_
    have h19 : a.tmps[19]?.getD undef = .pointer (some ⟨g, 0, none⟩) := by rw [← Array.getD_eq_getD_getElem?]; exact hh.dep 0 19 (by kernel_rfl) (by kernel_rfl)
    obtain ⟨p0, p1, pi, o0, o1, o2, o3, oi⟩ := FC.out _ hh.rel
    have hJ := Lib.hid hh.st
    clear hh
    go_simp
    exact ⟨_, rfl, regs.bl_refl _, rfl, hJ.out⟩
  · refine regs.StepOK.plain rfl fun L a w1 hh => ?_
    have h20 : a.tmps[20]?.getD undef = .pointer (some ⟨g, 0, none⟩) := by rw [← Array.getD_eq_getD_getElem?]; exact hh.dep 1 20 (by kernel_rfl) (by kernel_rfl)
    obtain ⟨p0, p1, pi, o0, o1, o2, o3, oi⟩ := FC.out _ hh.rel
    have hJ := Lib.hid hh.st
    clear hh
    go_simp
    exact ⟨_, rfl, regs.bl_refl _, rfl, hJ.out⟩
  · refine regs.StepOK.plain rfl fun L a w1 hh => ?_
    have h21 : a.tmps[21]?.getD undef = .pointer (some ⟨g, 1, none⟩) := by rw [← Array.getD_eq_getD_getElem?]; exact hh.dep 2 21 (by kernel_rfl) (by kernel_rfl)
    obtain ⟨p0, p1, pi, o0, o1, o2, o3, oi⟩ := FC.out _ hh.rel
    have hJ := Lib.hid hh.st
    clear hh
    go_simp
    exact ⟨_, rfl, regs.bl_refl _, rfl, hJ.out⟩
  · refine regs.StepOK.plain rfl fun L a w1 hh => ?_
    have h3 : a.tmps[3]?.getD undef = .pointer (some ⟨w.heap.size, 0, none⟩) := by rw [← Array.getD_eq_getD_getElem?]; exact hh.old 3 rfl
    obtain ⟨p0, p1, pi, o0, o1, o2, o3, oi⟩ := FC.out _ hh.rel
    have hJ := Lib.hid hh.st
    clear hh
    go_simp
    exact ⟨_, rfl, regs.bl_refl _, rfl, hJ.out⟩
  · refine regs.StepOK.plain rfl fun L a w1 hh => ?_
    have h23 : a.tmps[23]?.getD undef = .pointer (some ⟨w.heap.size, 1, none⟩) := by rw [← Array.getD_eq_getD_getElem?]; exact hh.dep 4 23 (by kernel_rfl) (by kernel_rfl)
    obtain ⟨p0, p1, pi, o0, o1, o2, o3, oi⟩ := FC.out _ hh.rel
    have hJ := Lib.hid hh.st
    clear hh
    go_simp
    exact ⟨_, rfl, regs.bl_refl _, rfl, hJ.out⟩
  · refine regs.StepOK.plain rfl fun L a w1 hh => ?_
    have h3 : a.tmps[3]?.getD undef = .pointer (some ⟨w.heap.size, 0, none⟩) := by rw [← Array.getD_eq_getD_getElem?]; exact hh.old 3 rfl
    obtain ⟨p0, p1, pi, o0, o1, o2, o3, oi⟩ := FC.out _ hh.rel
    have hJ := Lib.hid hh.st
    clear hh
    go_simp
    exact ⟨_, rfl, regs.bl_refl _, rfl, hJ.out⟩
  · refine regs.StepOK.plain rfl fun L a w1 hh => ?_
    have h25 : a.tmps[25]?.getD undef = .pointer (some ⟨w.heap.size, 2, none⟩) := by rw [← Array.getD_eq_getD_getElem?]; exact hh.dep 6 25 (by kernel_rfl) (by kernel_rfl)
    obtain ⟨p0, p1, pi, o0, o1, o2, o3, oi⟩ := FC.out _ hh.rel
    have hJ := Lib.hid hh.st
    clear hh
    go_simp
    exact ⟨_, rfl, regs.bl_refl _, rfl, hJ.out⟩
  · refine regs.StepOK.plain rfl fun L a w1 hh => ?_
    have h3 : a.tmps[3]?.getD undef = .pointer (some ⟨w.heap.size, 0, none⟩) := by rw [← Array.getD_eq_getD_getElem?]; exact hh.old 3 rfl
    obtain ⟨p0, p1, pi, o0, o1, o2, o3, oi⟩ := FC.out _ hh.rel
    have hJ := Lib.hid hh.st
    clear hh
    go_simp
    exact ⟨_, rfl, regs.bl_refl _, rfl, hJ.out⟩
  · refine regs.StepOK.plain rfl fun L a w1 hh => ?_
    have h27 : a.tmps[27]?.getD undef = .pointer (some ⟨w.heap.size, 3, none⟩) := by rw [← Array.getD_eq_getD_getElem?]; exact hh.dep 8 27 (by kernel_rfl) (by kernel_rfl)
    obtain ⟨p0, p1, pi, o0, o1, o2, o3, oi⟩ := FC.out _ hh.rel
    have hJ := Lib.hid hh.st
    clear hh
    go_simp
    exact ⟨_, rfl, regs.bl_refl _, rfl, hJ.out⟩
  · refine regs.StepOK.plain rfl fun L a w1 hh => ?_
    have h22 : a.tmps[22]?.getD undef = .slice A t.length c := by rw [← Array.getD_eq_getD_getElem?]; exact hh.dep 3 22 (by kernel_rfl) (by kernel_rfl)
    have h24 : a.tmps[24]?.getD undef = .int .i64 ci := by rw [← Array.getD_eq_getD_getElem?]; exact hh.dep 5 24 (by kernel_rfl) (by kernel_rfl)
    have h26 : a.tmps[26]?.getD undef = .int .i64 p := by rw [← Array.getD_eq_getD_getElem?]; exact hh.dep 7 26 (by kernel_rfl) (by kernel_rfl)
    have h28 : a.tmps[28]?.getD undef = .int .i64 n := by rw [← Array.getD_eq_getD_getElem?]; exact hh.dep 9 28 (by kernel_rfl) (by kernel_rfl)
    have hC := Lib.hid (HC.out _ hh.rel)
    have hJ := Lib.hid hh.st
    clear hh
    go_simp
    refine hC.out.mono ?_
    rintro e w9 ⟨v9, rfl, hd9, hb9⟩
    exact ⟨_, rfl, hb9, ⟨v9, rfl, hd9⟩, hJ.out⟩
  · refine regs.StepOK.plain rfl fun L a w1 hh => ?_
    obtain ⟨v9, e9, hd9⟩ := hh.dep 10 29 (by kernel_rfl) (by kernel_rfl)
    have h29 : a.tmps[29]?.getD undef = .tuple #[v9, .int .i64 R.2] := by rw [← Array.getD_eq_getD_getElem?]; exact e9
    clear e9
    obtain ⟨A9, c9, rfl, hr9⟩ := hd9
    have HR9 := Lib.hid hr9
    clear hr9
    have hJ := Lib.hid hh.st
    clear hh
    go_simp
    exact ⟨_, rfl, regs.bl_refl _, ⟨_, rfl, _, _, rfl, HR9.out⟩, hJ.out⟩
  · refine regs.StepOK.plain rfl fun L a w1 hh => ?_
    obtain ⟨v9, e9, hd9⟩ := hh.dep 11 18 (by kernel_rfl) (by kernel_rfl)
    have h18 : a.tmps[18]?.getD undef = .tuple #[v9, .int .i64 R.2] := by rw [← Array.getD_eq_getD_getElem?]; exact e9
    clear e9
    obtain ⟨A9, c9, rfl, hr9⟩ := hd9
    have HR9 := Lib.hid hr9
    clear hr9
    have hJ := Lib.hid hh.st
    clear hh
    go_simp
    exact ⟨_, rfl, regs.bl_refl _, ⟨_, _, rfl, HR9.out⟩, hJ.out⟩
  · refine regs.StepOK.plain rfl fun L a w1 hh => ?_
    obtain ⟨v9, e9, hd9⟩ := hh.dep 11 18 (by kernel_rfl) (by kernel_rfl)
    have h18 : a.tmps[18]?.getD undef = .tuple #[v9, .int .i64 R.2] := by rw [← Array.getD_eq_getD_getElem?]; exact e9
    clear e9
    obtain ⟨A9, c9, rfl, hr9⟩ := hd9
    have HR9 := Lib.hid hr9
    clear hr9
    have hJ := Lib.hid hh.st
    clear hh
    go_simp
    exact ⟨_, rfl, regs.bl_refl _, rfl, hJ.out⟩
  · refine regs.StepOK.plain rfl fun L a w1 hh => ?_
    obtain ⟨v9, h30⟩ : ∃ x, a.tmps[30]?.getD undef = x := ⟨_, rfl⟩
    have hd9 := hh.dep 12 30 (by kernel_rfl) (by kernel_rfl)
    rw [Array.getD_eq_getD_getElem?, h30] at hd9
    obtain ⟨A9, c9, rfl, hr9⟩ := hd9
    have HR9 := Lib.hid hr9
    clear hr9
    have hJ := Lib.hid hh.st
    clear hh
    go_simp
    exact ⟨_, rfl, regs.bl_refl _, ⟨_, _, rfl, HR9.out⟩, hJ.out⟩
  · refine regs.StepOK.plain rfl fun L a w1 hh => ?_
    have h31 : a.tmps[31]?.getD undef = .int .i64 R.2 := by rw [← Array.getD_eq_getD_getElem?]; exact hh.dep 13 31 (by kernel_rfl) (by kernel_rfl)
    have hJ := Lib.hid hh.st
    clear hh
    go_simp
    exact ⟨_, rfl, regs.bl_refl _, rfl, hJ.out⟩
  intro L w1 val hL hJ hR hv
  obtain ⟨A5, c5, e5, hr5, hy5⟩ := (show DTree w1 (val 5) R.1 from hv 14 5 (by kernel_rfl))
  have h6 : val 6 = .int .i64 R.2 := hv 15 6 (by kernel_rfl)
  have hR' : Below w0.heap.size w0 w1 := hR
  have HR1 := Lib.hid hR'
  have HD1 : Hid (DTree w1 (.slice A5 R.1.length c5) R.1) := ⟨_, _, rfl, hr5, hy5⟩
  clear hv hL hJ hR hR' hr5 hy5 HC FC
  simp only [regs.putAll, List.map_cons, List.map_nil, e5, h6]
  simp only [Act.put, List.setIfInBounds_toArray, List.set_cons_zero, List.set_cons_succ]
  clear e5 h6
  generalize val 19 = y19 at *
  generalize val 20 = y20 at *
  generalize val 21 = y21 at *
  generalize val 22 = y22 at *
  generalize val 23 = y23 at *
  generalize val 24 = y24 at *
  generalize val 25 = y25 at *
  generalize val 26 = y26 at *
  generalize val 27 = y27 at *
  generalize val 28 = y28 at *
  generalize val 29 = y29 at *
  generalize val 18 = y18 at *
  generalize val 30 = y30 at *
  generalize val 31 = y31 at *
  simp only [Exit.then]
  have HP1 := Lib.hid (HP0.out.below HR1.out)
  have hx1 := HX0.out.stays (HR1.out.block _ HX0.out.inside)
  have q0 := HP1.out.blk.blk.cell 0
  have q1 := HP1.out.blk.blk.free 1
  have q2 := HP1.out.blk.blk.cell 1
  have qi := HP1.out.blk.inside
  have hne : w.heap.size ≠ g := Nat.ne_of_gt HP.out.blk.inside
  obtain ⟨w2, hw2⟩ : ∃ w2, w2 = w1.setCell ⟨g, 1, none⟩ (.slice A5 R.1.length c5) := ⟨_, rfl⟩
  have HG2 : Hid (BlkT w2 g [.pointer (some ⟨b, 0, none⟩), .slice A5 R.1.length c5] tPlay) := by rw [hw2]; exact HP1.out.blk.set 1 _
  have HX2 : Hid (BlkT w2 w.heap.size [.int .i64 1, .int .i64 ci, .int .i64 p, .int .i64 n] tOp) := hx1.stays (by rw [hw2]; exact heap_setCell_other _ _ _ _ hne)
  have HT2 : Hid (TreeAt w2 b s t) := HP1.out.tree.stays fun k hk => by rw [hw2]; exact heap_setCell_other _ _ _ _ (fun e => HP1.out.far (by rw [e] at hk; exact hk))
  have HD2 : Hid (DTree w2 (.slice A5 R.1.length c5) R.1) := HD1.out.stays fun A c a e hy ea => by rw [hw2]; exact heap_setCell_other _ _ _ _ (hy.not_blk ea HP1.out.blk (by decide))
  have HTP2 : Hid (TurnP (PFoot g b s t) (PFoot g b s t) w w2) := by
    rw [hw2]
    exact (TurnP.below (HB0.out.trans (HR1.out.mono HB0.out.size))).trans (TurnP.set (a := ⟨g, 1, none⟩) (.inl rfl) _)
  have HF2 : Hid (∀ k, FootT b s t k → k < w.heap.size) := HP.out.tree.raw.inside
  have FC2 : Hid (∀ W, TurnP (FootT b s t) (FootT b s t) w2 W → DoF W g b w.heap.size (.slice A5 R.1.length c5) 1 ci p n) := fun W hb =>
    DoF.of (HG2.out.stays (hb.far _ HG2.out.inside HP1.out.far).2) (HX2.out.stays (hb.far _ HX2.out.inside fun e => Nat.lt_irrefl _ (HF2.out _ e)).2)
  have HW2 := Lib.hid hw2
  clear hx1 hne hw2 HD1
  go_wp2_with (fail)
  rw [← HW2.out]
  clear HW2 q0 q1 q2 qi
  refine regs.wp_region_put (TurnP (FootT b s t) (FootT b s t)) (fun L wx => DoJ b s t R.1 w2 (L 10) wx) [36, 37, 38, 39, 40, 41, 42, 43, 44, 45, 46, 47, 48, 4] (by kernel_rfl) (by kernel_rfl) (fun _ => TurnP.refl _ _) (fun _ _ _ h k => h.trans k) (fun i => (match i with
    | 0 => regs.Say.val _ (.pointer (some ⟨g, 0, none⟩))
    | 1 => regs.Say.val _ (.pointer (some ⟨g, 0, none⟩))
    | 2 => regs.Say.val _ (.pointer (some ⟨g, 0, none⟩))
    | 3 => regs.Say.val _ (.pointer (some ⟨b, 0, none⟩))
    | 4 => regs.Say.val _ (.pointer (some ⟨w.heap.size, 1, none⟩))
    | 5 => regs.Say.val _ (.int .i64 ci)
    | 6 => regs.Say.val _ (.pointer (some ⟨w.heap.size, 2, none⟩))
    | 7 => regs.Say.val _ (.int .i64 p)
    | 8 => regs.Say.val _ (.pointer (some ⟨w.heap.size, 3, none⟩))
    | 9 => regs.Say.val _ (.int .i64 n)
    | 10 => regs.Say.val _ (.int .i64 R.2)
    | 11 => regs.Say.val _ (.int .i64 R.2)
    | 12 => regs.Say.val _ (.bool true)
    | 13 => regs.Say.val _ (.bool true)
    | _ => regs.Say.any _ : regs.Say (TurnP (FootT b s t) (FootT b s t))).p) (fun _ => regs.Say.mono _) (by kernel_rfl) (TurnP.below ((Below.refl _ _).drew)) (⟨fun _ => HT2.out.below ((Below.refl _ _).drew), fun e => (nomatch e)⟩) ⟨?_, ?_, ?_, ?_, ?_, ?_, ?_, ?_, ?_, ?_, ?_, ?_, ?_, ?_, trivial⟩ ?_
  · refine regs.StepOK.plain rfl fun L a w1 hh => ?_
    have h0 : a.tmps[0]?.getD undef = .pointer (some ⟨g, 0, none⟩) := by rw [← Array.getD_eq_getD_getElem?]; exact hh.old 0 rfl
    have hJ := Lib.hid hh.st
    clear hh
    go_simp
    exact ⟨_, rfl, TurnP.refl _ _, rfl, hJ.out⟩
  · refine regs.StepOK.plain rfl fun L a w1 hh => ?_
    have h36 : a.tmps[36]?.getD undef = .pointer (some ⟨g, 0, none⟩) := by rw [← Array.getD_eq_getD_getElem?]; exact hh.dep 0 36 (by kernel_rfl) (by kernel_rfl)
    obtain ⟨p0, p1, pi, o0, o1, o2, o3, oi⟩ := FC2.out _ hh.rel
    have hJ := Lib.hid hh.st
    clear hh
    go_simp
    exact ⟨_, rfl, TurnP.refl _ _, rfl, hJ.out⟩
  · refine regs.StepOK.plain rfl fun L a w1 hh => ?_
    have h37 : a.tmps[37]?.getD undef = .pointer (some ⟨g, 0, none⟩) := by rw [← Array.getD_eq_getD_getElem?]; exact hh.dep 1 37 (by kernel_rfl) (by kernel_rfl)
    obtain ⟨p0, p1, pi, o0, o1, o2, o3, oi⟩ := FC2.out _ hh.rel
    have hJ := Lib.hid hh.st
    clear hh
    go_simp
    exact ⟨_, rfl, TurnP.refl _ _, rfl, hJ.out⟩
  · refine regs.StepOK.plain rfl fun L a w1 hh => ?_
    have h38 : a.tmps[38]?.getD undef = .pointer (some ⟨g, 0, none⟩) := by rw [← Array.getD_eq_getD_getElem?]; exact hh.dep 2 38 (by kernel_rfl) (by kernel_rfl)
    obtain ⟨p0, p1, pi, o0, o1, o2, o3, oi⟩ := FC2.out _ hh.rel
    have hJ := Lib.hid hh.st
    clear hh
    go_simp
    exact ⟨_, rfl, TurnP.refl _ _, rfl, hJ.out⟩
  · refine regs.StepOK.plain rfl fun L a w1 hh => ?_
    have h3 : a.tmps[3]?.getD undef = .pointer (some ⟨w.heap.size, 0, none⟩) := by rw [← Array.getD_eq_getD_getElem?]; exact hh.old 3 rfl
    obtain ⟨p0, p1, pi, o0, o1, o2, o3, oi⟩ := FC2.out _ hh.rel
    have hJ := Lib.hid hh.st
    clear hh
    go_simp
    exact ⟨_, rfl, TurnP.refl _ _, rfl, hJ.out⟩
  · refine regs.StepOK.plain rfl fun L a w1 hh => ?_
    have h40 : a.tmps[40]?.getD undef = .pointer (some ⟨w.heap.size, 1, none⟩) := by rw [← Array.getD_eq_getD_getElem?]; exact hh.dep 4 40 (by kernel_rfl) (by kernel_rfl)
    obtain ⟨p0, p1, pi, o0, o1, o2, o3, oi⟩ := FC2.out _ hh.rel
    have hJ := Lib.hid hh.st
    clear hh
    go_simp
    exact ⟨_, rfl, TurnP.refl _ _, rfl, hJ.out⟩
  · refine regs.StepOK.plain rfl fun L a w1 hh => ?_
    have h3 : a.tmps[3]?.getD undef = .pointer (some ⟨w.heap.size, 0, none⟩) := by rw [← Array.getD_eq_getD_getElem?]; exact hh.old 3 rfl
    obtain ⟨p0, p1, pi, o0, o1, o2, o3, oi⟩ := FC2.out _ hh.rel
    have hJ := Lib.hid hh.st
    clear hh
    go_simp
    exact ⟨_, rfl, TurnP.refl _ _, rfl, hJ.out⟩
  · refine regs.StepOK.plain rfl fun L a w1 hh => ?_
    have h42 : a.tmps[42]?.getD undef = .pointer (some ⟨w.heap.size, 2, none⟩) := by rw [← Array.getD_eq_getD_getElem?]; exact hh.dep 6 42 (by kernel_rfl) (by kernel_rfl)
    obtain ⟨p0, p1, pi, o0, o1, o2, o3, oi⟩ := FC2.out _ hh.rel
    have hJ := Lib.hid hh.st
    clear hh
    go_simp
    exact ⟨_, rfl, TurnP.refl _ _, rfl, hJ.out⟩
  · refine regs.StepOK.plain rfl fun L a w1 hh => ?_
    have h3 : a.tmps[3]?.getD undef = .pointer (some ⟨w.heap.size, 0, none⟩) := by rw [← Array.getD_eq_getD_getElem?]; exact hh.old 3 rfl
    obtain ⟨p0, p1, pi, o0, o1, o2, o3, oi⟩ := FC2.out _ hh.rel
    have hJ := Lib.hid hh.st
    clear hh
    go_simp
    exact ⟨_, rfl, TurnP.refl _ _, rfl, hJ.out⟩
  · refine regs.StepOK.plain rfl fun L a w1 hh => ?_
    have h44 : a.tmps[44]?.getD undef = .pointer (some ⟨w.heap.size, 3, none⟩) := by rw [← Array.getD_eq_getD_getElem?]; exact hh.dep 8 44 (by kernel_rfl) (by kernel_rfl)
    obtain ⟨p0, p1, pi, o0, o1, o2, o3, oi⟩ := FC2.out _ hh.rel
    have hJ := Lib.hid hh.st
    clear hh
    go_simp
    exact ⟨_, rfl, TurnP.refl _ _, rfl, hJ.out⟩
  · refine regs.StepOK.plain rfl fun L a w1 hh => ?_
    have h39 : a.tmps[39]?.getD undef = .pointer (some ⟨b, 0, none⟩) := by rw [← Array.getD_eq_getD_getElem?]; exact hh.dep 3 39 (by kernel_rfl) (by kernel_rfl)
    have h41 : a.tmps[41]?.getD undef = .int .i64 ci := by rw [← Array.getD_eq_getD_getElem?]; exact hh.dep 5 41 (by kernel_rfl) (by kernel_rfl)
    have h43 : a.tmps[43]?.getD undef = .int .i64 p := by rw [← Array.getD_eq_getD_getElem?]; exact hh.dep 7 43 (by kernel_rfl) (by kernel_rfl)
    have h45 : a.tmps[45]?.getD undef = .int .i64 n := by rw [← Array.getD_eq_getD_getElem?]; exact hh.dep 9 45 (by kernel_rfl) (by kernel_rfl)
    have hT := hh.st.no hh.un
    have hC := Lib.hid (HCT.out _ hT)
    have HRel := Lib.hid hh.rel
    clear hT
    have hJ := Lib.hid hh.st
    clear hh
    go_simp
    refine hC.out.mono ?_
    rintro e w9 ⟨s9, rfl, ht9, hp9⟩
    exact ⟨_, rfl, hp9.wide (fun _ h => h), rfl, ⟨fun e => absurd e (by simp [regs.upd]), fun _ => ⟨s9, ht9, HRel.out.trans hp9⟩⟩⟩
  · refine regs.StepOK.plain rfl fun L a w1 hh => ?_
    have h6 : a.tmps[6]?.getD undef = .int .i64 R.2 := by rw [← Array.getD_eq_getD_getElem?]; exact hh.old 6 rfl
    have hJ := Lib.hid hh.st
    clear hh
    go_simp
    exact ⟨_, rfl, TurnP.refl _ _, rfl, hJ.out⟩
  · refine regs.StepOK.plain rfl fun L a w1 hh => ?_
    have h46 : a.tmps[46]?.getD undef = .int .i64 R.2 := by rw [← Array.getD_eq_getD_getElem?]; exact hh.dep 10 46 (by kernel_rfl) (by kernel_rfl)
    have h47 : a.tmps[47]?.getD undef = .int .i64 R.2 := by rw [← Array.getD_eq_getD_getElem?]; exact hh.dep 11 47 (by kernel_rfl) (by kernel_rfl)
    have hJ := Lib.hid hh.st
    clear hh
    go_simp
    exact ⟨_, rfl, TurnP.refl _ _, rfl, hJ.out⟩
  · refine regs.StepOK.plain rfl fun L a w1 hh => ?_
    have h48 : a.tmps[48]?.getD undef = .bool true := by rw [← Array.getD_eq_getD_getElem?]; exact hh.dep 12 48 (by kernel_rfl) (by kernel_rfl)
    have hJ := Lib.hid hh.st
    clear hh
    go_simp
    exact ⟨_, rfl, TurnP.refl _ _, rfl, hJ.out⟩
  intro L w3 val hL hJ hR hv
  have h4 : val 4 = .bool true := hv 13 4 (by kernel_rfl)
  obtain ⟨s', hT3, hTP⟩ := hJ.yes (hL 10 (by decide))
  have HT3 := Lib.hid (And.intro hT3 hTP)
  clear hv hL hJ hR hT3 hTP
  simp only [regs.putAll, List.map_cons, List.map_nil, h4]
  simp only [Act.put, List.setIfInBounds_toArray, List.set_cons_zero, List.set_cons_succ]
  clear h4
  generalize val 36 = z36 at *
  generalize val 37 = z37 at *
  generalize val 38 = z38 at *
  generalize val 39 = z39 at *
  generalize val 40 = z40 at *
  generalize val 41 = z41 at *
  generalize val 42 = z42 at *
  generalize val 43 = z43 at *
  generalize val 44 = z44 at *
  generalize val 45 = z45 at *
  generalize val 46 = z46 at *
  generalize val 47 = z47 at *
  generalize val 48 = z48 at *
  simp only [Exit.then]
  go_wp2_with (fail)
  go_ret
  exact ⟨s', _, rfl, PlayAt.turn HG2.out HT2.out HP1.out.far HD2.out HT3.out.1 HT3.out.2, HTP2.out.trans ((HT3.out.2.more fun k hk => .inr hk).sub fun k hk => .inl (hk.elim (fun e => .inl (.inl e)) .inr))⟩
set_option maxRecDepth 100000 in
set_option maxHeartbeats 4000000 in
theorem do_move (h : PlayAt w g b s v t) (hn : t.length ≤ 1000) (ci p n : Int) (hi : I64 ci) (hp : I64 p) :
    Calls Try.prog 11 #[.pointer (some ⟨g, 0, none⟩), .agg #[.int .i64 3, .int .i64 ci, .int .i64 p, .int .i64 n]] w (PlayQ g b s t (movS t ci p n).1 w) := by
  obtain ⟨R, hR⟩ : ∃ R, movS t ci p n = R := ⟨_, rfl⟩
  rw [hR]
  obtain ⟨A, c, rfl, hdr, hdy⟩ := h.doc
  have HP := Lib.hid h
  have HN := Lib.hid hn
  obtain ⟨w0, hw0⟩ : ∃ w0, w0 = w.alloc (.cells #[.int .i64 3, .int .i64 ci, .int .i64 p, .int .i64 n] tOp) := ⟨_, rfl⟩
  have hb0 : Below w.heap.size w w0 := by rw [hw0]; exact (Below.refl _ _).alloc (Nat.le_refl _) _
  have hx0 : BlkT w0 w.heap.size [.int .i64 3, .int .i64 ci, .int .i64 p, .int .i64 n] tOp := by rw [hw0]; exact BlkT.new w _ _
  have HB0 := Lib.hid hb0
  have HX0 := Lib.hid hx0
  have HP0 := Lib.hid (h.below hb0)
  have FC : Hid (∀ W, regs.bl w0 W → DoF W g b w.heap.size (.slice A t.length c) 3 ci p n) := fun W hb => DoF.of (HP0.out.below hb).blk (HX0.out.stays (hb.block _ HX0.out.inside))
  have HC : Hid (∀ W, regs.bl w0 W → Calls Try.prog 36 #[.slice A t.length c, .int .i64 ci, .int .i64 p, .int .i64 n] W (AddQ R W)) := fun W hb => by
    rw [← hR]
    exact dmove _ t ci p n W HP.out.tree.ok (HP0.out.below hb).doc HN.out
  have HCT : Hid (∀ W, TreeAt W b s t → Calls Try.prog 26 #[.pointer (some ⟨b, 0, none⟩), .int .i64 ci, .int .i64 p, .int .i64 n] W (DoQ b s t R W)) := fun W hT => by
    rw [← hR]
    exact tmove hT hn ci p n hi hp
  have HW0 := Lib.hid hw0
  unfold AddQ at HC
  unfold DoQ at HCT
  clear hR h hn hdr hdy hw0 hb0 hx0 hi hp
  go_enter Try.func11, Try.ntmps11
  go_wp2_with (fail)
  rw [← HW0.out]
  clear HW0
  refine regs.wp_region_put (regs.bl) (regs.noJ) [87, 88, 89, 90, 91, 92, 93, 94, 95, 96, 97, 86, 98, 99, 12, 13] (by kernel_rfl) (by kernel_rfl) (fun _ => regs.bl_refl _) (regs.bl_trans) (fun i => (match i with
    | 0 => regs.Say.val _ (.pointer (some ⟨g, 0, none⟩))
    | 1 => regs.Say.val _ (.pointer (some ⟨g, 0, none⟩))
    | 2 => regs.Say.val _ (.pointer (some ⟨g, 1, none⟩))
    | 3 => regs.Say.val _ (.slice A t.length c)
    | 4 => regs.Say.val _ (.pointer (some ⟨w.heap.size, 1, none⟩))
    | 5 => regs.Say.val _ (.int .i64 ci)
    | 6 => regs.Say.val _ (.pointer (some ⟨w.heap.size, 2, none⟩))
    | 7 => regs.Say.val _ (.int .i64 p)
    | 8 => regs.Say.val _ (.pointer (some ⟨w.heap.size, 3, none⟩))
    | 9 => regs.Say.val _ (.int .i64 n)
    | 10 => sayAdd R
    | 11 => sayAdd R
    | 12 => sayD R.1
    | 13 => regs.Say.val _ (.int .i64 R.2)
    | 14 => sayD R.1
    | 15 => regs.Say.val _ (.int .i64 R.2)
    | _ => regs.Say.any _ : regs.Say (regs.bl)).p) (fun _ => regs.Say.mono _) (by kernel_rfl) ((Below.refl _ _).drew) (regs.noJ_ok _ _) ⟨?_, ?_, ?_, ?_, ?_, ?_, ?_, ?_, ?_, ?_, ?_, ?_, ?_, ?_, ?_, ?_, trivial⟩ ?_
  · refine regs.StepOK.plain rfl fun L a w1 hh => ?_
    have h0 : a.tmps[0]?.getD undef = .pointer (some ⟨g, 0, none⟩) := by rw [← Array.getD_eq_getD_getElem?]; exact hh.old 0 rfl
    have hJ := Lib.hid hh.st
    clear hh
    go_simp
    exact ⟨_, rfl, regs.bl_refl _, rfl, hJ.out⟩
  · refine regs.StepOK.plain rfl fun L a w1 hh => ?_
    have h87 : a.tmps[87]?.getD undef = .pointer (some ⟨g, 0, none⟩) := by rw [← Array.getD_eq_getD_getElem?]; exact hh.dep 0 87 (by kernel_rfl) (by kernel_rfl)
    obtain ⟨p0, p1, pi, o0, o1, o2, o3, oi⟩ := FC.out _ hh.rel
    have hJ := Lib.hid hh.st
    clear hh
    go_simp
    exact ⟨_, rfl, regs.bl_refl _, rfl, hJ.out⟩
  · refine regs.StepOK.plain rfl fun L a w1 hh => ?_
    have h88 : a.tmps[88]?.getD undef = .pointer (some ⟨g, 0, none⟩) := by rw [← Array.getD_eq_getD_getElem?]; exact hh.dep 1 88 (by kernel_rfl) (by kernel_rfl)
    obtain ⟨p0, p1, pi, o0, o1, o2, o3, oi⟩ := FC.out _ hh.rel
    have hJ := Lib.hid hh.st
    clear hh
    go_simp
    exact ⟨_, rfl, regs.bl_refl _, rfl, hJ.out⟩
  · refine regs.StepOK.plain rfl fun L a w1 hh => ?_
    have h89 : a.tmps[89]?.getD undef = .pointer (some ⟨g, 1, none⟩) := by rw [← Array.getD_eq_getD_getElem?]; exact hh.dep 2 89 (by kernel_rfl) (by kernel_rfl)
    obtain ⟨p0, p1, pi, o0, o1, o2, o3, oi⟩ := FC.out _ hh.rel
    have hJ := Lib.hid hh.st
    clear hh
    go_simp
    exact ⟨_, rfl, regs.bl_refl _, rfl, hJ.out⟩
  · refine regs.StepOK.plain rfl fun L a w1 hh => ?_
    have h3 : a.tmps[3]?.getD undef = .pointer (some ⟨w.heap.size, 0, none⟩) := by rw [← Array.getD_eq_getD_getElem?]; exact hh.old 3 rfl
    obtain ⟨p0, p1, pi, o0, o1, o2, o3, oi⟩ := FC.out _ hh.rel
    have hJ := Lib.hid hh.st
    clear hh
    go_simp
    exact ⟨_, rfl, regs.bl_refl _, rfl, hJ.out⟩
  · refine regs.StepOK.plain rfl fun L a w1 hh => ?_
    have h91 : a.tmps[91]?.getD undef = .pointer (some ⟨w.heap.size, 1, none⟩) := by rw [← Array.getD_eq_getD_getElem?]; exact hh.dep 4 91 (by kernel_rfl) (by kernel_rfl)
    obtain ⟨p0, p1, pi, o0, o1, o2, o3, oi⟩ := FC.out _ hh.rel
    have hJ := Lib.hid hh.st
    clear hh
    go_simp
    exact ⟨_, rfl, regs.bl_refl _, rfl, hJ.out⟩
  · refine regs.StepOK.plain rfl fun L a w1 hh => ?_
    have h3 : a.tmps[3]?.getD undef = .pointer (some ⟨w.heap.size, 0, none⟩) := by rw [← Array.getD_eq_getD_getElem?]; exact hh.old 3 rfl
    obtain ⟨p0, p1, pi, o0, o1, o2, o3, oi⟩ := FC.out _ hh.rel
    have hJ := Lib.hid hh.st
    clear hh
    go_simp
    exact ⟨_, rfl, regs.bl_refl _, rfl, hJ.out⟩
  · refine regs.StepOK.plain rfl fun L a w1 hh => ?_
    have h93 : a.tmps[93]?.getD undef = .pointer (some ⟨w.heap.size, 2, none⟩) := by rw [← Array.getD_eq_getD_getElem?]; exact hh.dep 6 93 (by kernel_rfl) (by kernel_rfl)
    obtain ⟨p0, p1, pi, o0, o1, o2, o3, oi⟩ := FC.out _ hh.rel
    have hJ := Lib.hid hh.st
    clear hh
    go_simp
    exact ⟨_, rfl, regs.bl_refl _, rfl, hJ.out⟩
  · refine regs.StepOK.plain rfl fun L a w1 hh => ?_
    have h3 : a.tmps[3]?.getD undef = .pointer (some ⟨w.heap.size, 0, none⟩) := by rw [← Array.getD_eq_getD_getElem?]; exact hh.old 3 rfl
    obtain ⟨p0, p1, pi, o0, o1, o2, o3, oi⟩ := FC.out _ hh.rel
    have hJ := Lib.hid hh.st
    clear hh
    go_simp
    exact ⟨_, rfl, regs.bl_refl _, rfl, hJ.out⟩
  · refine regs.StepOK.plain rfl fun L a w1 hh => ?_
    have h95 : a.tmps[95]?.getD undef = .pointer (some ⟨w.heap.size, 3, none⟩) := by rw [← Array.getD_eq_getD_getElem?]; exact hh.dep 8 95 (by kernel_rfl) (by kernel_rfl)
    obtain ⟨p0, p1, pi, o0, o1, o2, o3, oi⟩ := FC.out _ hh.rel
    have hJ := Lib.hid hh.st
    clear hh
    go_simp
    exact ⟨_, rfl, regs.bl_refl _, rfl, hJ.out⟩
  · refine regs.StepOK.plain rfl fun L a w1 hh => ?_
    have h90 : a.tmps[90]?.getD undef = .slice A t.length c := by rw [← Array.getD_eq_getD_getElem?]; exact hh.dep 3 90 (by kernel_rfl) (by kernel_rfl)
    have h92 : a.tmps[92]?.getD undef = .int .i64 ci := by rw [← Array.getD_eq_getD_getElem?]; exact hh.dep 5 92 (by kernel_rfl) (by kernel_rfl)
    have h94 : a.tmps[94]?.getD undef = .int .i64 p := by rw [← Array.getD_eq_getD_getElem?]; exact hh.dep 7 94 (by kernel_rfl) (by kernel_rfl)
    have h96 : a.tmps[96]?.getD undef = .int .i64 n := by rw [← Array.getD_eq_getD_getElem?]; exact hh.dep 9 96 (by kernel_rfl) (by kernel_rfl)
    have hC := Lib.hid (HC.out _ hh.rel)
    have hJ := Lib.hid hh.st
    clear hh
    go_simp
    refine hC.out.mono ?_
    rintro e w9 ⟨v9, rfl, hd9, hb9⟩
    exact ⟨_, rfl, hb9, ⟨v9, rfl, hd9⟩, hJ.out⟩
  · refine regs.StepOK.plain rfl fun L a w1 hh => ?_
    obtain ⟨v9, e9, hd9⟩ := hh.dep 10 97 (by kernel_rfl) (by kernel_rfl)
    have h97 : a.tmps[97]?.getD undef = .tuple #[v9, .int .i64 R.2] := by rw [← Array.getD_eq_getD_getElem?]; exact e9
    clear e9
    obtain ⟨A9, c9, rfl, hr9⟩ := hd9
    have HR9 := Lib.hid hr9
    clear hr9
    have hJ := Lib.hid hh.st
    clear hh
    go_simp
    exact ⟨_, rfl, regs.bl_refl _, ⟨_, rfl, _, _, rfl, HR9.out⟩, hJ.out⟩
  · refine regs.StepOK.plain rfl fun L a w1 hh => ?_
    obtain ⟨v9, e9, hd9⟩ := hh.dep 11 86 (by kernel_rfl) (by kernel_rfl)
    have h86 : a.tmps[86]?.getD undef = .tuple #[v9, .int .i64 R.2] := by rw [← Array.getD_eq_getD_getElem?]; exact e9
    clear e9
    obtain ⟨A9, c9, rfl, hr9⟩ := hd9
    have HR9 := Lib.hid hr9
    clear hr9
    have hJ := Lib.hid hh.st
    clear hh
    go_simp
    exact ⟨_, rfl, regs.bl_refl _, ⟨_, _, rfl, HR9.out⟩, hJ.out⟩
  · refine regs.StepOK.plain rfl fun L a w1 hh => ?_
    obtain ⟨v9, e9, hd9⟩ := hh.dep 11 86 (by kernel_rfl) (by kernel_rfl)
    have h86 : a.tmps[86]?.getD undef = .tuple #[v9, .int .i64 R.2] := by rw [← Array.getD_eq_getD_getElem?]; exact e9
    clear e9
    obtain ⟨A9, c9, rfl, hr9⟩ := hd9
    have HR9 := Lib.hid hr9
    clear hr9
    have hJ := Lib.hid hh.st
    clear hh
    go_simp
    exact ⟨_, rfl, regs.bl_refl _, rfl, hJ.out⟩
  · refine regs.StepOK.plain rfl fun L a w1 hh => ?_
    obtain ⟨v9, h98⟩ : ∃ x, a.tmps[98]?.getD undef = x := ⟨_, rfl⟩
    have hd9 := hh.dep 12 98 (by kernel_rfl) (by kernel_rfl)
    rw [Array.getD_eq_getD_getElem?, h98] at hd9
    obtain ⟨A9, c9, rfl, hr9⟩ := hd9
    have HR9 := Lib.hid hr9
    clear hr9
    have hJ := Lib.hid hh.st
    clear hh
    go_simp
    exact ⟨_, rfl, regs.bl_refl _, ⟨_, _, rfl, HR9.out⟩, hJ.out⟩
  · refine regs.StepOK.plain rfl fun L a w1 hh => ?_
    have h99 : a.tmps[99]?.getD undef = .int .i64 R.2 := by rw [← Array.getD_eq_getD_getElem?]; exact hh.dep 13 99 (by kernel_rfl) (by kernel_rfl)
    have hJ := Lib.hid hh.st
    clear hh
    go_simp
    exact ⟨_, rfl, regs.bl_refl _, rfl, hJ.out⟩
  intro L w1 val hL hJ hR hv
  obtain ⟨A5, c5, e5, hr5, hy5⟩ := (show DTree w1 (val 12) R.1 from hv 14 12 (by kernel_rfl))
  have h6 : val 13 = .int .i64 R.2 := hv 15 13 (by kernel_rfl)
  have hR' : Below w0.heap.size w0 w1 := hR
  have HR1 := Lib.hid hR'
  have HD1 : Hid (DTree w1 (.slice A5 R.1.length c5) R.1) := ⟨_, _, rfl, hr5, hy5⟩
  clear hv hL hJ hR hR' hr5 hy5 HC FC
  simp only [regs.putAll, List.map_cons, List.map_nil, e5, h6]
  simp only [Act.put, List.setIfInBounds_toArray, List.set_cons_zero, List.set_cons_succ]
  clear e5 h6
  generalize val 87 = y87 at *
  generalize val 88 = y88 at *
  generalize val 89 = y89 at *
  generalize val 90 = y90 at *
  generalize val 91 = y91 at *
  generalize val 92 = y92 at *
  generalize val 93 = y93 at *
  generalize val 94 = y94 at *
  generalize val 95 = y95 at *
  generalize val 96 = y96 at *
  generalize val 97 = y97 at *
  generalize val 86 = y86 at *
  generalize val 98 = y98 at *
  generalize val 99 = y99 at *
  simp only [Exit.then]
  have HP1 := Lib.hid (HP0.out.below HR1.out)
  have hx1 := HX0.out.stays (HR1.out.block _ HX0.out.inside)
  have q0 := HP1.out.blk.blk.cell 0
  have q1 := HP1.out.blk.blk.free 1
  have q2 := HP1.out.blk.blk.cell 1
  have qi := HP1.out.blk.inside
  have hne : w.heap.size ≠ g := Nat.ne_of_gt HP.out.blk.inside
  obtain ⟨w2, hw2⟩ : ∃ w2, w2 = w1.setCell ⟨g, 1, none⟩ (.slice A5 R.1.length c5) := ⟨_, rfl⟩
  have HG2 : Hid (BlkT w2 g [.pointer (some ⟨b, 0, none⟩), .slice A5 R.1.length c5] tPlay) := by rw [hw2]; exact HP1.out.blk.set 1 _
  have HX2 : Hid (BlkT w2 w.heap.size [.int .i64 3, .int .i64 ci, .int .i64 p, .int .i64 n] tOp) := hx1.stays (by rw [hw2]; exact heap_setCell_other _ _ _ _ hne)
  have HT2 : Hid (TreeAt w2 b s t) := HP1.out.tree.stays fun k hk => by rw [hw2]; exact heap_setCell_other _ _ _ _ (fun e => HP1.out.far (by rw [e] at hk; exact hk))
  have HD2 : Hid (DTree w2 (.slice A5 R.1.length c5) R.1) := HD1.out.stays fun A c a e hy ea => by rw [hw2]; exact heap_setCell_other _ _ _ _ (hy.not_blk ea HP1.out.blk (by decide))
  have HTP2 : Hid (TurnP (PFoot g b s t) (PFoot g b s t) w w2) := by
    rw [hw2]
    exact (TurnP.below (HB0.out.trans (HR1.out.mono HB0.out.size))).trans (TurnP.set (a := ⟨g, 1, none⟩) (.inl rfl) _)
  have HF2 : Hid (∀ k, FootT b s t k → k < w.heap.size) := HP.out.tree.raw.inside
  have FC2 : Hid (∀ W, TurnP (FootT b s t) (FootT b s t) w2 W → DoF W g b w.heap.size (.slice A5 R.1.length c5) 3 ci p n) := fun W hb =>
    DoF.of (HG2.out.stays (hb.far _ HG2.out.inside HP1.out.far).2) (HX2.out.stays (hb.far _ HX2.out.inside fun e => Nat.lt_irrefl _ (HF2.out _ e)).2)
  have HW2 := Lib.hid hw2
  clear hx1 hne hw2 HD1
  go_wp2_with (fail)
  rw [← HW2.out]
  clear HW2 q0 q1 q2 qi
  refine regs.wp_region_put (TurnP (FootT b s t) (FootT b s t)) (fun L wx => DoJ b s t R.1 w2 (L 10) wx) [104, 105, 106, 107, 108, 109, 110, 111, 112, 113, 114, 115, 116, 4] (by kernel_rfl) (by kernel_rfl) (fun _ => TurnP.refl _ _) (fun _ _ _ h k => h.trans k) (fun i => (match i with
    | 0 => regs.Say.val _ (.pointer (some ⟨g, 0, none⟩))
    | 1 => regs.Say.val _ (.pointer (some ⟨g, 0, none⟩))
    | 2 => regs.Say.val _ (.pointer (some ⟨g, 0, none⟩))
    | 3 => regs.Say.val _ (.pointer (some ⟨b, 0, none⟩))
    | 4 => regs.Say.val _ (.pointer (some ⟨w.heap.size, 1, none⟩))
    | 5 => regs.Say.val _ (.int .i64 ci)
    | 6 => regs.Say.val _ (.pointer (some ⟨w.heap.size, 2, none⟩))
    | 7 => regs.Say.val _ (.int .i64 p)
    | 8 => regs.Say.val _ (.pointer (some ⟨w.heap.size, 3, none⟩))
    | 9 => regs.Say.val _ (.int .i64 n)
    | 10 => regs.Say.val _ (.int .i64 R.2)
    | 11 => regs.Say.val _ (.int .i64 R.2)
    | 12 => regs.Say.val _ (.bool true)
    | 13 => regs.Say.val _ (.bool true)
    | _ => regs.Say.any _ : regs.Say (TurnP (FootT b s t) (FootT b s t))).p) (fun _ => regs.Say.mono _) (by kernel_rfl) (TurnP.below ((Below.refl _ _).drew)) (⟨fun _ => HT2.out.below ((Below.refl _ _).drew), fun e => (nomatch e)⟩) ⟨?_, ?_, ?_, ?_, ?_, ?_, ?_, ?_, ?_, ?_, ?_, ?_, ?_, ?_, trivial⟩ ?_
  · refine regs.StepOK.plain rfl fun L a w1 hh => ?_
    have h0 : a.tmps[0]?.getD undef = .pointer (some ⟨g, 0, none⟩) := by rw [← Array.getD_eq_getD_getElem?]; exact hh.old 0 rfl
    have hJ := Lib.hid hh.st
    clear hh
    go_simp
    exact ⟨_, rfl, TurnP.refl _ _, rfl, hJ.out⟩
  · refine regs.StepOK.plain rfl fun L a w1 hh => ?_
    have h104 : a.tmps[104]?.getD undef = .pointer (some ⟨g, 0, none⟩) := by rw [← Array.getD_eq_getD_getElem?]; exact hh.dep 0 104 (by kernel_rfl) (by kernel_rfl)
    obtain ⟨p0, p1, pi, o0, o1, o2, o3, oi⟩ := FC2.out _ hh.rel
    have hJ := Lib.hid hh.st
    clear hh
    go_simp
    exact ⟨_, rfl, TurnP.refl _ _, rfl, hJ.out⟩
  · refine regs.StepOK.plain rfl fun L a w1 hh => ?_
    have h105 : a.tmps[105]?.getD undef = .pointer (some ⟨g, 0, none⟩) := by rw [← Array.getD_eq_getD_getElem?]; exact hh.dep 1 105 (by kernel_rfl) (by kernel_rfl)
    obtain ⟨p0, p1, pi, o0, o1, o2, o3, oi⟩ := FC2.out _ hh.rel
    have hJ := Lib.hid hh.st
    clear hh
    go_simp
    exact ⟨_, rfl, TurnP.refl _ _, rfl, hJ.out⟩
  · refine regs.StepOK.plain rfl fun L a w1 hh => ?_
    have h106 : a.tmps[106]?.getD undef = .pointer (some ⟨g, 0, none⟩) := by rw [← Array.getD_eq_getD_getElem?]; exact hh.dep 2 106 (by kernel_rfl) (by kernel_rfl)
    obtain ⟨p0, p1, pi, o0, o1, o2, o3, oi⟩ := FC2.out _ hh.rel
    have hJ := Lib.hid hh.st
    clear hh
    go_simp
    exact ⟨_, rfl, TurnP.refl _ _, rfl, hJ.out⟩
  · refine regs.StepOK.plain rfl fun L a w1 hh => ?_
    have h3 : a.tmps[3]?.getD undef = .pointer (some ⟨w.heap.size, 0, none⟩) := by rw [← Array.getD_eq_getD_getElem?]; exact hh.old 3 rfl
    obtain ⟨p0, p1, pi, o0, o1, o2, o3, oi⟩ := FC2.out _ hh.rel
    have hJ := Lib.hid hh.st
    clear hh
    go_simp
    exact ⟨_, rfl, TurnP.refl _ _, rfl, hJ.out⟩
  · refine regs.StepOK.plain rfl fun L a w1 hh => ?_
    have h108 : a.tmps[108]?.getD undef = .pointer (some ⟨w.heap.size, 1, none⟩) := by rw [← Array.getD_eq_getD_getElem?]; exact hh.dep 4 108 (by kernel_rfl) (by kernel_rfl)
    obtain ⟨p0, p1, pi, o0, o1, o2, o3, oi⟩ := FC2.out _ hh.rel
    have hJ := Lib.hid hh.st
    clear hh
    go_simp
    exact ⟨_, rfl, TurnP.refl _ _, rfl, hJ.out⟩
  · refine regs.StepOK.plain rfl fun L a w1 hh => ?_
    have h3 : a.tmps[3]?.getD undef = .pointer (some ⟨w.heap.size, 0, none⟩) := by rw [← Array.getD_eq_getD_getElem?]; exact hh.old 3 rfl
    obtain ⟨p0, p1, pi, o0, o1, o2, o3, oi⟩ := FC2.out _ hh.rel
    have hJ := Lib.hid hh.st
    clear hh
    go_simp
    exact ⟨_, rfl, TurnP.refl _ _, rfl, hJ.out⟩
  · refine regs.StepOK.plain rfl fun L a w1 hh => ?_
    have h110 : a.tmps[110]?.getD undef = .pointer (some ⟨w.heap.size, 2, none⟩) := by rw [← Array.getD_eq_getD_getElem?]; exact hh.dep 6 110 (by kernel_rfl) (by kernel_rfl)
    obtain ⟨p0, p1, pi, o0, o1, o2, o3, oi⟩ := FC2.out _ hh.rel
    have hJ := Lib.hid hh.st
    clear hh
    go_simp
    exact ⟨_, rfl, TurnP.refl _ _, rfl, hJ.out⟩
  · refine regs.StepOK.plain rfl fun L a w1 hh => ?_
    have h3 : a.tmps[3]?.getD undef = .pointer (some ⟨w.heap.size, 0, none⟩) := by rw [← Array.getD_eq_getD_getElem?]; exact hh.old 3 rfl
    obtain ⟨p0, p1, pi, o0, o1, o2, o3, oi⟩ := FC2.out _ hh.rel
    have hJ := Lib.hid hh.st
    clear hh
    go_simp
    exact ⟨_, rfl, TurnP.refl _ _, rfl, hJ.out⟩
  · refine regs.StepOK.plain rfl fun L a w1 hh => ?_
    have h112 : a.tmps[112]?.getD undef = .pointer (some ⟨w.heap.size, 3, none⟩) := by rw [← Array.getD_eq_getD_getElem?]; exact hh.dep 8 112 (by kernel_rfl) (by kernel_rfl)
    obtain ⟨p0, p1, pi, o0, o1, o2, o3, oi⟩ := FC2.out _ hh.rel
    have hJ := Lib.hid hh.st
    clear hh
    go_simp
    exact ⟨_, rfl, TurnP.refl _ _, rfl, hJ.out⟩
  · refine regs.StepOK.plain rfl fun L a w1 hh => ?_
    have h107 : a.tmps[107]?.getD undef = .pointer (some ⟨b, 0, none⟩) := by rw [← Array.getD_eq_getD_getElem?]; exact hh.dep 3 107 (by kernel_rfl) (by kernel_rfl)
    have h109 : a.tmps[109]?.getD undef = .int .i64 ci := by rw [← Array.getD_eq_getD_getElem?]; exact hh.dep 5 109 (by kernel_rfl) (by kernel_rfl)
    have h111 : a.tmps[111]?.getD undef = .int .i64 p := by rw [← Array.getD_eq_getD_getElem?]; exact hh.dep 7 111 (by kernel_rfl) (by kernel_rfl)
    have h113 : a.tmps[113]?.getD undef = .int .i64 n := by rw [← Array.getD_eq_getD_getElem?]; exact hh.dep 9 113 (by kernel_rfl) (by kernel_rfl)
    have hT := hh.st.no hh.un
    have hC := Lib.hid (HCT.out _ hT)
    have HRel := Lib.hid hh.rel
    clear hT
    have hJ := Lib.hid hh.st
    clear hh
    go_simp
    refine hC.out.mono ?_
    rintro e w9 ⟨s9, rfl, ht9, hp9⟩
    exact ⟨_, rfl, hp9.wide (fun _ h => h), rfl, ⟨fun e => absurd e (by simp [regs.upd]), fun _ => ⟨s9, ht9, HRel.out.trans hp9⟩⟩⟩
  · refine regs.StepOK.plain rfl fun L a w1 hh => ?_
    have h13 : a.tmps[13]?.getD undef = .int .i64 R.2 := by rw [← Array.getD_eq_getD_getElem?]; exact hh.old 13 rfl
    have hJ := Lib.hid hh.st
    clear hh
    go_simp
    exact ⟨_, rfl, TurnP.refl _ _, rfl, hJ.out⟩
  · refine regs.StepOK.plain rfl fun L a w1 hh => ?_
    have h114 : a.tmps[114]?.getD undef = .int .i64 R.2 := by rw [← Array.getD_eq_getD_getElem?]; exact hh.dep 10 114 (by kernel_rfl) (by kernel_rfl)
    have h115 : a.tmps[115]?.getD undef = .int .i64 R.2 := by rw [← Array.getD_eq_getD_getElem?]; exact hh.dep 11 115 (by kernel_rfl) (by kernel_rfl)
    have hJ := Lib.hid hh.st
    clear hh
    go_simp
    exact ⟨_, rfl, TurnP.refl _ _, rfl, hJ.out⟩
  · refine regs.StepOK.plain rfl fun L a w1 hh => ?_
    have h116 : a.tmps[116]?.getD undef = .bool true := by rw [← Array.getD_eq_getD_getElem?]; exact hh.dep 12 116 (by kernel_rfl) (by kernel_rfl)
    have hJ := Lib.hid hh.st
    clear hh
    go_simp
    exact ⟨_, rfl, TurnP.refl _ _, rfl, hJ.out⟩
  intro L w3 val hL hJ hR hv
  have h4 : val 4 = .bool true := hv 13 4 (by kernel_rfl)
  obtain ⟨s', hT3, hTP⟩ := hJ.yes (hL 10 (by decide))
  have HT3 := Lib.hid (And.intro hT3 hTP)
  clear hv hL hJ hR hT3 hTP
  simp only [regs.putAll, List.map_cons, List.map_nil, h4]
  simp only [Act.put, List.setIfInBounds_toArray, List.set_cons_zero, List.set_cons_succ]
  clear h4
  generalize val 104 = z104 at *
  generalize val 105 = z105 at *
  generalize val 106 = z106 at *
  generalize val 107 = z107 at *
  generalize val 108 = z108 at *
  generalize val 109 = z109 at *
  generalize val 110 = z110 at *
  generalize val 111 = z111 at *
  generalize val 112 = z112 at *
  generalize val 113 = z113 at *
  generalize val 114 = z114 at *
  generalize val 115 = z115 at *
  generalize val 116 = z116 at *
  simp only [Exit.then]
  go_wp2_with (fail)
  go_ret
  exact ⟨s', _, rfl, PlayAt.turn HG2.out HT2.out HP1.out.far HD2.out HT3.out.1 HT3.out.2, HTP2.out.trans ((HT3.out.2.more fun k hk => .inr hk).sub fun k hk => .inl (hk.elim (fun e => .inl (.inl e)) .inr))⟩
set_option maxRecDepth 100000 in
set_option maxHeartbeats 4000000 in
theorem do_rem (h : PlayAt w g b s v t) (hn : t.length ≤ 1000) (ci p n : Int) (hi : I64 ci) :
    Calls Try.prog 11 #[.pointer (some ⟨g, 0, none⟩), .agg #[.int .i64 2, .int .i64 ci, .int .i64 p, .int .i64 n]] w (PlayQ g b s t (remS t ci).1 w) := by
  obtain ⟨R, hR⟩ : ∃ R, remS t ci = R := ⟨_, rfl⟩
  rw [hR]
  obtain ⟨A, c, rfl, hdr, hdy⟩ := h.doc
  have HP := Lib.hid h
  have HN := Lib.hid hn
  obtain ⟨w0, hw0⟩ : ∃ w0, w0 = w.alloc (.cells #[.int .i64 2, .int .i64 ci, .int .i64 p, .int .i64 n] tOp) := ⟨_, rfl⟩
  have hb0 : Below w.heap.size w w0 := by rw [hw0]; exact (Below.refl _ _).alloc (Nat.le_refl _) _
  have hx0 : BlkT w0 w.heap.size [.int .i64 2, .int .i64 ci, .int .i64 p, .int .i64 n] tOp := by rw [hw0]; exact BlkT.new w _ _
  have HB0 := Lib.hid hb0
  have HX0 := Lib.hid hx0
  have HP0 := Lib.hid (h.below hb0)
  have FC : Hid (∀ W, regs.bl w0 W → DoF W g b w.heap.size (.slice A t.length c) 2 ci p n) := fun W hb => DoF.of (HP0.out.below hb).blk (HX0.out.stays (hb.block _ HX0.out.inside))
  have HC : Hid (∀ W, regs.bl w0 W → Calls Try.prog 35 #[.slice A t.length c, .int .i64 ci] W (RemQ R W)) := fun W hb => by
    rw [← hR]
    exact drem _ t ci W HP.out.tree.ok (HP0.out.below hb).doc HN.out
  have HCT : Hid (∀ W, TreeAt W b s t → Calls Try.prog 32 #[.pointer (some ⟨b, 0, none⟩), .int .i64 ci] W (RmQ b s t R W)) := fun W hT => by
    rw [← hR]
    exact tremove hT hn ci hi
  have HLR : Hid (R.2.1.length ≤ 100000) := by rw [← hR]; have := remS_len h.tree.ok ci; show _ ≤ _; omega
  have HW0 := Lib.hid hw0
  unfold RemQ at HC
  unfold RmQ at HCT
  clear hR h hn hdr hdy hw0 hb0 hx0 hi
  go_enter Try.func11, Try.ntmps11
  go_wp2_with (fail)
  rw [← HW0.out]
  clear HW0
  refine regs.wp_region_put (regs.bl) (regs.noJ) [52, 53, 54, 55, 56, 57, 58, 51, 59, 60, 61, 7, 8, 9] (by kernel_rfl) (by kernel_rfl) (fun _ => regs.bl_refl _) (regs.bl_trans) (fun i => (match i with
    | 0 => regs.Say.val _ (.pointer (some ⟨g, 0, none⟩))
    | 1 => regs.Say.val _ (.pointer (some ⟨g, 0, none⟩))
    | 2 => regs.Say.val _ (.pointer (some ⟨g, 1, none⟩))
    | 3 => regs.Say.val _ (.slice A t.length c)
    | 4 => regs.Say.val _ (.pointer (some ⟨w.heap.size, 1, none⟩))
    | 5 => regs.Say.val _ (.int .i64 ci)
    | 6 => sayRem w0.heap.size R
    | 7 => sayRem w0.heap.size R
    | 8 => sayD R.1
    | 9 => sayI w0.heap.size R.2.1
    | 10 => regs.Say.val _ (.int .i64 R.2.2)
    | 11 => sayD R.1
    | 12 => sayI w0.heap.size R.2.1
    | 13 => regs.Say.val _ (.int .i64 R.2.2)
    | _ => regs.Say.any _ : regs.Say (regs.bl)).p) (fun _ => regs.Say.mono _) (by kernel_rfl) ((Below.refl _ _).drew) (regs.noJ_ok _ _) ⟨?_, ?_, ?_, ?_, ?_, ?_, ?_, ?_, ?_, ?_, ?_, ?_, ?_, ?_, trivial⟩ ?_
  · refine regs.StepOK.plain rfl fun L a w1 hh => ?_
    have h0 : a.tmps[0]?.getD undef = .pointer (some ⟨g, 0, none⟩) := by rw [← Array.getD_eq_getD_getElem?]; exact hh.old 0 rfl
    have hJ := Lib.hid hh.st
    clear hh
    go_simp
    exact ⟨_, rfl, regs.bl_refl _, rfl, hJ.out⟩
  · refine regs.StepOK.plain rfl fun L a w1 hh => ?_
    have h52 : a.tmps[52]?.getD undef = .pointer (some ⟨g, 0, none⟩) := by rw [← Array.getD_eq_getD_getElem?]; exact hh.dep 0 52 (by kernel_rfl) (by kernel_rfl)
    obtain ⟨p0, p1, pi, o0, o1, o2, o3, oi⟩ := FC.out _ hh.rel
    have hJ := Lib.hid hh.st
    clear hh
    go_simp
    exact ⟨_, rfl, regs.bl_refl _, rfl, hJ.out⟩
  · refine regs.StepOK.plain rfl fun L a w1 hh => ?_
    have h53 : a.tmps[53]?.getD undef = .pointer (some ⟨g, 0, none⟩) := by rw [← Array.getD_eq_getD_getElem?]; exact hh.dep 1 53 (by kernel_rfl) (by kernel_rfl)
    obtain ⟨p0, p1, pi, o0, o1, o2, o3, oi⟩ := FC.out _ hh.rel
    have hJ := Lib.hid hh.st
    clear hh
    go_simp
    exact ⟨_, rfl, regs.bl_refl _, rfl, hJ.out⟩
  · refine regs.StepOK.plain rfl fun L a w1 hh => ?_
    have h54 : a.tmps[54]?.getD undef = .pointer (some ⟨g, 1, none⟩) := by rw [← Array.getD_eq_getD_getElem?]; exact hh.dep 2 54 (by kernel_rfl) (by kernel_rfl)
    obtain ⟨p0, p1, pi, o0, o1, o2, o3, oi⟩ := FC.out _ hh.rel
    have hJ := Lib.hid hh.st
    clear hh
    go_simp
    exact ⟨_, rfl, regs.bl_refl _, rfl, hJ.out⟩
  · refine regs.StepOK.plain rfl fun L a w1 hh => ?_
    have h3 : a.tmps[3]?.getD undef = .pointer (some ⟨w.heap.size, 0, none⟩) := by rw [← Array.getD_eq_getD_getElem?]; exact hh.old 3 rfl
    obtain ⟨p0, p1, pi, o0, o1, o2, o3, oi⟩ := FC.out _ hh.rel
    have hJ := Lib.hid hh.st
    clear hh
    go_simp
    exact ⟨_, rfl, regs.bl_refl _, rfl, hJ.out⟩
  · refine regs.StepOK.plain rfl fun L a w1 hh => ?_
    have h56 : a.tmps[56]?.getD undef = .pointer (some ⟨w.heap.size, 1, none⟩) := by rw [← Array.getD_eq_getD_getElem?]; exact hh.dep 4 56 (by kernel_rfl) (by kernel_rfl)
    obtain ⟨p0, p1, pi, o0, o1, o2, o3, oi⟩ := FC.out _ hh.rel
    have hJ := Lib.hid hh.st
    clear hh
    go_simp
    exact ⟨_, rfl, regs.bl_refl _, rfl, hJ.out⟩
  · refine regs.StepOK.plain rfl fun L a w1 hh => ?_
    have h55 : a.tmps[55]?.getD undef = .slice A t.length c := by rw [← Array.getD_eq_getD_getElem?]; exact hh.dep 3 55 (by kernel_rfl) (by kernel_rfl)
    have h57 : a.tmps[57]?.getD undef = .int .i64 ci := by rw [← Array.getD_eq_getD_getElem?]; exact hh.dep 5 57 (by kernel_rfl) (by kernel_rfl)
    have hC := Lib.hid (HC.out _ hh.rel)
    have hsz := Lib.hid (show w0.heap.size ≤ w1.heap.size from (show Below w0.heap.size w0 w1 from hh.rel).size)
    have hJ := Lib.hid hh.st
    clear hh
    go_simp
    refine hC.out.mono ?_
    rintro e w9 ⟨v9, u9, rfl, hd9, ho9, hb9⟩
    exact ⟨_, rfl, hb9, ⟨v9, u9, rfl, hd9, SOwn.weaken ho9 hsz.out⟩, hJ.out⟩
  · refine regs.StepOK.plain rfl fun L a w1 hh => ?_
    obtain ⟨v9, u9, e9, hd9, ho9⟩ := hh.dep 6 58 (by kernel_rfl) (by kernel_rfl)
    have h58 : a.tmps[58]?.getD undef = .tuple #[v9, u9, .int .i64 R.2.2] := by rw [← Array.getD_eq_getD_getElem?]; exact e9
    clear e9
    obtain ⟨A9, c9, rfl, hr9⟩ := hd9
    obtain ⟨A8, n8, c8, rfl⟩ := SOwn.shape ho9
    have HR9 := Lib.hid hr9
    have HO9 := Lib.hid ho9
    clear hr9 ho9
    have hJ := Lib.hid hh.st
    clear hh
    go_simp
    exact ⟨_, rfl, regs.bl_refl _, ⟨_, _, rfl, ⟨_, _, rfl, HR9.out⟩, HO9.out⟩, hJ.out⟩
  · refine regs.StepOK.plain rfl fun L a w1 hh => ?_
    obtain ⟨v9, u9, e9, hd9, ho9⟩ := hh.dep 7 51 (by kernel_rfl) (by kernel_rfl)
    have h51 : a.tmps[51]?.getD undef = .tuple #[v9, u9, .int .i64 R.2.2] := by rw [← Array.getD_eq_getD_getElem?]; exact e9
    clear e9
    obtain ⟨A9, c9, rfl, hr9⟩ := hd9
    obtain ⟨A8, n8, c8, rfl⟩ := SOwn.shape ho9
    have HR9 := Lib.hid hr9
    have HO9 := Lib.hid ho9
    clear hr9 ho9
    have hJ := Lib.hid hh.st
    clear hh
    go_simp
    exact ⟨_, rfl, regs.bl_refl _, ⟨_, _, rfl, HR9.out⟩, hJ.out⟩
  · refine regs.StepOK.plain rfl fun L a w1 hh => ?_
    obtain ⟨v9, u9, e9, hd9, ho9⟩ := hh.dep 7 51 (by kernel_rfl) (by kernel_rfl)
    have h51 : a.tmps[51]?.getD undef = .tuple #[v9, u9, .int .i64 R.2.2] := by rw [← Array.getD_eq_getD_getElem?]; exact e9
    clear e9
    obtain ⟨A9, c9, rfl, hr9⟩ := hd9
    obtain ⟨A8, n8, c8, rfl⟩ := SOwn.shape ho9
    have HR9 := Lib.hid hr9
    have HO9 := Lib.hid ho9
    clear hr9 ho9
    have hJ := Lib.hid hh.st
    clear hh
    go_simp
    exact ⟨_, rfl, regs.bl_refl _, HO9.out, hJ.out⟩
  · refine regs.StepOK.plain rfl fun L a w1 hh => ?_
    obtain ⟨v9, u9, e9, hd9, ho9⟩ := hh.dep 7 51 (by kernel_rfl) (by kernel_rfl)
    have h51 : a.tmps[51]?.getD undef = .tuple #[v9, u9, .int .i64 R.2.2] := by rw [← Array.getD_eq_getD_getElem?]; exact e9
    clear e9
    obtain ⟨A9, c9, rfl, hr9⟩ := hd9
    obtain ⟨A8, n8, c8, rfl⟩ := SOwn.shape ho9
    have HR9 := Lib.hid hr9
    have HO9 := Lib.hid ho9
    clear hr9 ho9
    have hJ := Lib.hid hh.st
    clear hh
    go_simp
    exact ⟨_, rfl, regs.bl_refl _, rfl, hJ.out⟩
  · refine regs.StepOK.plain rfl fun L a w1 hh => ?_
    obtain ⟨v9, h59⟩ : ∃ x, a.tmps[59]?.getD undef = x := ⟨_, rfl⟩
    have hd9 := hh.dep 8 59 (by kernel_rfl) (by kernel_rfl)
    rw [Array.getD_eq_getD_getElem?, h59] at hd9
    obtain ⟨A9, c9, rfl, hr9⟩ := hd9
    have HR9 := Lib.hid hr9
    clear hr9
    have hJ := Lib.hid hh.st
    clear hh
    go_simp
    exact ⟨_, rfl, regs.bl_refl _, ⟨_, _, rfl, HR9.out⟩, hJ.out⟩
  · refine regs.StepOK.plain rfl fun L a w1 hh => ?_
    obtain ⟨v9, h60⟩ : ∃ x, a.tmps[60]?.getD undef = x := ⟨_, rfl⟩
    have hd9 := hh.dep 9 60 (by kernel_rfl) (by kernel_rfl)
    rw [Array.getD_eq_getD_getElem?, h60] at hd9
    obtain ⟨A9, n9, c9, rfl⟩ := SOwn.shape hd9
    have HR9 := Lib.hid hd9
    clear hd9
    have hJ := Lib.hid hh.st
    clear hh
    go_simp
    exact ⟨_, rfl, regs.bl_refl _, HR9.out, hJ.out⟩
  · refine regs.StepOK.plain rfl fun L a w1 hh => ?_
    have h61 : a.tmps[61]?.getD undef = .int .i64 R.2.2 := by rw [← Array.getD_eq_getD_getElem?]; exact hh.dep 10 61 (by kernel_rfl) (by kernel_rfl)
    have hJ := Lib.hid hh.st
    clear hh
    go_simp
    exact ⟨_, rfl, regs.bl_refl _, rfl, hJ.out⟩
  intro L w1 val hL hJ hR hv
  obtain ⟨A5, c5, e5, hr5, hy5⟩ := (show DTree w1 (val 7) R.1 from hv 11 7 (by kernel_rfl))
  have ho := (show IOwn w1 w0.heap.size (val 8) R.2.1 from hv 12 8 (by kernel_rfl))
  have h9 : val 9 = .int .i64 R.2.2 := hv 13 9 (by kernel_rfl)
  obtain ⟨A8, c8, e8, _⟩ := IOwn.irow ho
  rw [e8] at ho
  have hR' : Below w0.heap.size w0 w1 := hR
  have HR1 := Lib.hid hR'
  have HD1 : Hid (DTree w1 (.slice A5 R.1.length c5) R.1) := ⟨_, _, rfl, hr5, hy5⟩
  have HO1 := Lib.hid ho
  clear hv hL hJ hR hR' hr5 hy5 HC FC ho
  simp only [regs.putAll, List.map_cons, List.map_nil, e5, e8, h9]
  simp only [Act.put, List.setIfInBounds_toArray, List.set_cons_zero, List.set_cons_succ]
  clear e5 e8 h9
  generalize val 52 = y52 at *
  generalize val 53 = y53 at *
  generalize val 54 = y54 at *
  generalize val 55 = y55 at *
  generalize val 56 = y56 at *
  generalize val 57 = y57 at *
  generalize val 58 = y58 at *
  generalize val 51 = y51 at *
  generalize val 59 = y59 at *
  generalize val 60 = y60 at *
  generalize val 61 = y61 at *
  simp only [Exit.then]
  have HP1 := Lib.hid (HP0.out.below HR1.out)
  have hx1 := HX0.out.stays (HR1.out.block _ HX0.out.inside)
  have q0 := HP1.out.blk.blk.cell 0
  have q1 := HP1.out.blk.blk.free 1
  have q2 := HP1.out.blk.blk.cell 1
  have qi := HP1.out.blk.inside
  have hne : w.heap.size ≠ g := Nat.ne_of_gt HP.out.blk.inside
  obtain ⟨w2, hw2⟩ : ∃ w2, w2 = w1.setCell ⟨g, 1, none⟩ (.slice A5 R.1.length c5) := ⟨_, rfl⟩
  have HG2 : Hid (BlkT w2 g [.pointer (some ⟨b, 0, none⟩), .slice A5 R.1.length c5] tPlay) := by rw [hw2]; exact HP1.out.blk.set 1 _
  have HX2 : Hid (BlkT w2 w.heap.size [.int .i64 2, .int .i64 ci, .int .i64 p, .int .i64 n] tOp) := hx1.stays (by rw [hw2]; exact heap_setCell_other _ _ _ _ hne)
  have HT2 : Hid (TreeAt w2 b s t) := HP1.out.tree.stays fun k hk => by rw [hw2]; exact heap_setCell_other _ _ _ _ (fun e => HP1.out.far (by rw [e] at hk; exact hk))
  have HD2 : Hid (DTree w2 (.slice A5 R.1.length c5) R.1) := HD1.out.stays fun A c a e hy ea => by rw [hw2]; exact heap_setCell_other _ _ _ _ (hy.not_blk ea HP1.out.blk (by decide))
  have HTP2 : Hid (TurnP (PFoot g b s t) (PFoot g b s t) w w2) := by
    rw [hw2]
    exact (TurnP.below (HB0.out.trans (HR1.out.mono HB0.out.size))).trans (TurnP.set (a := ⟨g, 1, none⟩) (.inl rfl) _)
  have HF2 : Hid (∀ k, FootT b s t k → k < w.heap.size) := HP.out.tree.raw.inside
  have FC2 : Hid (∀ W, TurnP (FootT b s t) (FootT b s t) w2 W → DoF W g b w.heap.size (.slice A5 R.1.length c5) 2 ci p n) := fun W hb =>
    DoF.of (HG2.out.stays (hb.far _ HG2.out.inside HP1.out.far).2) (HX2.out.stays (hb.far _ HX2.out.inside fun e => Nat.lt_irrefl _ (HF2.out _ e)).2)
  have HS2 : Hid (w.heap.size ≤ w2.heap.size) := HTP2.out.size
  have HO2 : Hid (IOwn w2 w.heap.size (.slice A8 R.2.1.length c8) R.2.1) := SOwn.weaken (SOwn.stays HO1.out fun k hk => by rw [hw2]; exact heap_setCell_other _ _ _ _ (fun e => by have := (SOwn.block HO1.out hk).1; have := HP0.out.blk.inside; simp only at e; omega)) HB0.out.size
  have HW2 := Lib.hid hw2
  clear hx1 hne hw2 HD1 HO1
  go_wp2_with (fail)
  rw [← HW2.out]
  clear HW2 q0 q1 q2 qi
  refine regs.wp_region_put (TurnP (FootT b s t) (FootT b s t)) (fun L wx => DoJ b s t R.1 w2 (L 6) wx) [67, 68, 69, 70, 71, 72, 73, 66, 74, 75, 10, 11] (by kernel_rfl) (by kernel_rfl) (fun _ => TurnP.refl _ _) (fun _ _ _ h k => h.trans k) (fun i => (match i with
    | 0 => regs.Say.val _ (.pointer (some ⟨g, 0, none⟩))
    | 1 => regs.Say.val _ (.pointer (some ⟨g, 0, none⟩))
    | 2 => regs.Say.val _ (.pointer (some ⟨g, 0, none⟩))
    | 3 => regs.Say.val _ (.pointer (some ⟨b, 0, none⟩))
    | 4 => regs.Say.val _ (.pointer (some ⟨w.heap.size, 1, none⟩))
    | 5 => regs.Say.val _ (.int .i64 ci)
    | 6 => sayRm (FootT b s t) w.heap.size HF2.out R.2.2 R.2.1
    | 7 => sayRm (FootT b s t) w.heap.size HF2.out R.2.2 R.2.1
    | 8 => sayOw (FootT b s t) w.heap.size HF2.out R.2.1
    | 9 => regs.Say.val _ (.int .i64 R.2.2)
    | 10 => sayOw (FootT b s t) w.heap.size HF2.out R.2.1
    | 11 => regs.Say.val _ (.int .i64 R.2.2)
    | _ => regs.Say.any _ : regs.Say (TurnP (FootT b s t) (FootT b s t))).p) (fun _ => regs.Say.mono _) (by kernel_rfl) (TurnP.below ((Below.refl _ _).drew)) (⟨fun _ => HT2.out.below ((Below.refl _ _).drew), fun e => (nomatch e)⟩) ⟨?_, ?_, ?_, ?_, ?_, ?_, ?_, ?_, ?_, ?_, ?_, ?_, trivial⟩ ?_
  · refine regs.StepOK.plain rfl fun L a w1 hh => ?_
    have h0 : a.tmps[0]?.getD undef = .pointer (some ⟨g, 0, none⟩) := by rw [← Array.getD_eq_getD_getElem?]; exact hh.old 0 rfl
    have hJ := Lib.hid hh.st
    clear hh
    go_simp
    exact ⟨_, rfl, TurnP.refl _ _, rfl, hJ.out⟩
  · refine regs.StepOK.plain rfl fun L a w1 hh => ?_
    have h67 : a.tmps[67]?.getD undef = .pointer (some ⟨g, 0, none⟩) := by rw [← Array.getD_eq_getD_getElem?]; exact hh.dep 0 67 (by kernel_rfl) (by kernel_rfl)
    obtain ⟨p0, p1, pi, o0, o1, o2, o3, oi⟩ := FC2.out _ hh.rel
    have hJ := Lib.hid hh.st
    clear hh
    go_simp
    exact ⟨_, rfl, TurnP.refl _ _, rfl, hJ.out⟩
  · refine regs.StepOK.plain rfl fun L a w1 hh => ?_
    have h68 : a.tmps[68]?.getD undef = .pointer (some ⟨g, 0, none⟩) := by rw [← Array.getD_eq_getD_getElem?]; exact hh.dep 1 68 (by kernel_rfl) (by kernel_rfl)
    obtain ⟨p0, p1, pi, o0, o1, o2, o3, oi⟩ := FC2.out _ hh.rel
    have hJ := Lib.hid hh.st
    clear hh
    go_simp
    exact ⟨_, rfl, TurnP.refl _ _, rfl, hJ.out⟩
  · refine regs.StepOK.plain rfl fun L a w1 hh => ?_
    have h69 : a.tmps[69]?.getD undef = .pointer (some ⟨g, 0, none⟩) := by rw [← Array.getD_eq_getD_getElem?]; exact hh.dep 2 69 (by kernel_rfl) (by kernel_rfl)
    obtain ⟨p0, p1, pi, o0, o1, o2, o3, oi⟩ := FC2.out _ hh.rel
    have hJ := Lib.hid hh.st
    clear hh
    go_simp
    exact ⟨_, rfl, TurnP.refl _ _, rfl, hJ.out⟩
  · refine regs.StepOK.plain rfl fun L a w1 hh => ?_
    have h3 : a.tmps[3]?.getD undef = .pointer (some ⟨w.heap.size, 0, none⟩) := by rw [← Array.getD_eq_getD_getElem?]; exact hh.old 3 rfl
    obtain ⟨p0, p1, pi, o0, o1, o2, o3, oi⟩ := FC2.out _ hh.rel
    have hJ := Lib.hid hh.st
    clear hh
    go_simp
    exact ⟨_, rfl, TurnP.refl _ _, rfl, hJ.out⟩
  · refine regs.StepOK.plain rfl fun L a w1 hh => ?_
    have h71 : a.tmps[71]?.getD undef = .pointer (some ⟨w.heap.size, 1, none⟩) := by rw [← Array.getD_eq_getD_getElem?]; exact hh.dep 4 71 (by kernel_rfl) (by kernel_rfl)
    obtain ⟨p0, p1, pi, o0, o1, o2, o3, oi⟩ := FC2.out _ hh.rel
    have hJ := Lib.hid hh.st
    clear hh
    go_simp
    exact ⟨_, rfl, TurnP.refl _ _, rfl, hJ.out⟩
  · refine regs.StepOK.plain rfl fun L a w1 hh => ?_
    have h70 : a.tmps[70]?.getD undef = .pointer (some ⟨b, 0, none⟩) := by rw [← Array.getD_eq_getD_getElem?]; exact hh.dep 3 70 (by kernel_rfl) (by kernel_rfl)
    have h72 : a.tmps[72]?.getD undef = .int .i64 ci := by rw [← Array.getD_eq_getD_getElem?]; exact hh.dep 5 72 (by kernel_rfl) (by kernel_rfl)
    have hT := hh.st.no hh.un
    have hC := Lib.hid (HCT.out _ hT)
    have HRel := Lib.hid hh.rel
    clear hT
    have hJ := Lib.hid hh.st
    clear hh
    go_simp
    refine hC.out.mono ?_
    rintro e w9 ⟨s9, v9, rfl, ht9, ho9, hp9⟩
    exact ⟨_, rfl, hp9.wide (fun _ h => h), ⟨v9, rfl, SOwn.weaken ho9 (Nat.le_trans HS2.out HRel.out.size)⟩, ⟨fun e => absurd e (by simp [regs.upd]), fun _ => ⟨s9, ht9, HRel.out.trans hp9⟩⟩⟩
  · refine regs.StepOK.plain rfl fun L a w1 hh => ?_
    obtain ⟨v9, e9, ho9⟩ := hh.dep 6 73 (by kernel_rfl) (by kernel_rfl)
    have h73 : a.tmps[73]?.getD undef = .tuple #[v9, .int .i64 R.2.2] := by rw [← Array.getD_eq_getD_getElem?]; exact e9
    clear e9
    obtain ⟨A9, n9, c9, rfl⟩ := SOwn.shape ho9
    have HO9 := Lib.hid ho9
    clear ho9
    have hJ := Lib.hid hh.st
    clear hh
    go_simp
    exact ⟨_, rfl, TurnP.refl _ _, ⟨_, rfl, HO9.out⟩, hJ.out⟩
  · refine regs.StepOK.plain rfl fun L a w1 hh => ?_
    obtain ⟨v9, e9, ho9⟩ := hh.dep 7 66 (by kernel_rfl) (by kernel_rfl)
    have h66 : a.tmps[66]?.getD undef = .tuple #[v9, .int .i64 R.2.2] := by rw [← Array.getD_eq_getD_getElem?]; exact e9
    clear e9
    obtain ⟨A9, n9, c9, rfl⟩ := SOwn.shape ho9
    have HO9 := Lib.hid ho9
    clear ho9
    have hJ := Lib.hid hh.st
    clear hh
    go_simp
    exact ⟨_, rfl, TurnP.refl _ _, HO9.out, hJ.out⟩
  · refine regs.StepOK.plain rfl fun L a w1 hh => ?_
    obtain ⟨v9, e9, ho9⟩ := hh.dep 7 66 (by kernel_rfl) (by kernel_rfl)
    have h66 : a.tmps[66]?.getD undef = .tuple #[v9, .int .i64 R.2.2] := by rw [← Array.getD_eq_getD_getElem?]; exact e9
    clear e9
    obtain ⟨A9, n9, c9, rfl⟩ := SOwn.shape ho9
    have HO9 := Lib.hid ho9
    clear ho9
    have hJ := Lib.hid hh.st
    clear hh
    go_simp
    exact ⟨_, rfl, TurnP.refl _ _, rfl, hJ.out⟩
  · refine regs.StepOK.plain rfl fun L a w1 hh => ?_
    obtain ⟨v9, h74⟩ : ∃ x, a.tmps[74]?.getD undef = x := ⟨_, rfl⟩
    have hd9 := hh.dep 8 74 (by kernel_rfl) (by kernel_rfl)
    rw [Array.getD_eq_getD_getElem?, h74] at hd9
    obtain ⟨A9, n9, c9, rfl⟩ := SOwn.shape hd9
    have HR9 := Lib.hid hd9
    clear hd9
    have hJ := Lib.hid hh.st
    clear hh
    go_simp
    exact ⟨_, rfl, TurnP.refl _ _, HR9.out, hJ.out⟩
  · refine regs.StepOK.plain rfl fun L a w1 hh => ?_
    have h75 : a.tmps[75]?.getD undef = .int .i64 R.2.2 := by rw [← Array.getD_eq_getD_getElem?]; exact hh.dep 9 75 (by kernel_rfl) (by kernel_rfl)
    have hJ := Lib.hid hh.st
    clear hh
    go_simp
    exact ⟨_, rfl, TurnP.refl _ _, rfl, hJ.out⟩
  intro L w3 val hL hJ hR hv
  have ho := (show IOwn w3 w.heap.size (val 10) R.2.1 from hv 10 10 (by kernel_rfl))
  have h11 : val 11 = .int .i64 R.2.2 := hv 11 11 (by kernel_rfl)
  obtain ⟨A7, c7, e10, _, _, hr7⟩ := IOwn.irow ho
  obtain ⟨_, _, e8, _, _, hr8⟩ := IOwn.irow (IOwn.turn HF2.out HO2.out hR)
  cases e8
  obtain ⟨s', hT3, hTP⟩ := hJ.yes (hL 6 (by decide))
  have HT3 := Lib.hid (And.intro hT3 hTP)
  have HSM := Lib.hid (same_any A7 A8 R.2.1 R.2.1 c7 c8 w3 hr7 hr8 HLR.out HLR.out)
  rw [decide_eq_true rfl] at HSM
  clear hv hL hJ hR hT3 hTP ho hr7 hr8
  simp only [regs.putAll, List.map_cons, List.map_nil, e10, h11]
  simp only [Act.put, List.setIfInBounds_toArray, List.set_cons_zero, List.set_cons_succ]
  clear e10 h11
  generalize val 67 = z67 at *
  generalize val 68 = z68 at *
  generalize val 69 = z69 at *
  generalize val 70 = z70 at *
  generalize val 71 = z71 at *
  generalize val 72 = z72 at *
  generalize val 73 = z73 at *
  generalize val 66 = z66 at *
  generalize val 74 = z74 at *
  generalize val 75 = z75 at *
  simp only [Exit.then]
  go_wp2_with (fail)
  refine HSM.out.mono ?_
  rintro e w4 ⟨rfl, hb4⟩
  have HB4 := Lib.hid hb4
  clear hb4 HSM
  go_wp2_with (fail)
  go_ret
  have hpl := PlayAt.turn HG2.out HT2.out HP1.out.far HD2.out HT3.out.1 HT3.out.2
  exact ⟨s', _, rfl, hpl.below HB4.out, (HTP2.out.trans ((HT3.out.2.more fun k hk => .inr hk).sub fun k hk => .inl (hk.elim (fun e => .inl (.inl e)) .inr))).trans (TurnP.below HB4.out)⟩
end
end Go.Proofs.Ytokochkjjlbnkaa
