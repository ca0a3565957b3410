/-
  Layer 6: RectForms' walk.
-/
import Derived.Test.YtjnhjhbhodhfgaaRxF
import Derived.Deep.Cut
namespace Go.Proofs.Ytjnhjhbhodhfgaa
open Go.RowKit

/-- blocks known whole, one behind the other -/
def JBs : List (Nat × List Value) → World → Prop
  | [], _ => True
  | p :: l, w => Blk w p.1 p.2 ∧ JBs l w
theorem JBs.below : ∀ {l : List (Nat × List Value)} {w w' : World}, JBs l w → Below w.heap.size w w' → JBs l w'
  | [], _, _, _, _ => trivial
  | _ :: _, _, _, h, hb => ⟨h.1.below' hb, JBs.below h.2 hb⟩
theorem JBs.alloc {l : List (Nat × List Value)} {w : World} (h : JBs l w) (o : Obj) : JBs l (w.alloc o) := h.below ((Below.refl _ _).alloc (Nat.le_refl _) _)
theorem bel_step {B : Nat} {w w1 w2 : World} (h : Below B w w1) (hB : B ≤ w.heap.size) (hb : Below w1.heap.size w1 w2) : Below B w w2 := h.trans (hb.mono (Nat.le_trans hB h.size))

set_option maxHeartbeats 1000000 in
theorem rectForms_no (r s : Bx) (w : World) (h : (r.rt && s.rt) = false) : Calls Try.prog 4 #[r.v, s.v] w fun e w' => e = .returned (.bool true) ∧ Below w.heap.size w w' := by
  have HR := Lib.hid (fun w => right_any r w)
  have HS := Lib.hid (fun w => right_any s w)
  cases hr : r.rt with
  | false =>
    rw [hr] at HR
    clear HS h hr
    obtain ⟨ra, rb, rc, rd⟩ := r
    obtain ⟨sa, sb, sc, sd⟩ := s
    unfold Bx.v at *
    simp only at HR ⊢
    go_enter Try.func4, Try.ntmps4
    go_wp2_with (fail)
    refine (HR.out _).mono ?_
    rintro e w1 ⟨rfl, hb⟩
    have B1 : Hid (Below w.heap.size w w1) := (((Below.refl _ _).alloc (Nat.le_refl _) _).alloc (by simp) _).trans (hb.mono (by simp; try omega))
    clear hb
    go_wp2_with (fail)
    refine (awake_any _).mono ?_
    rintro e w2 ⟨rfl, hb⟩
    have B2 : Hid (Below w.heap.size w w2) := B1.out.trans (hb.mono B1.out.size)
    clear hb
    go_wp2_with (fail)
    go_ret
    exact ⟨rfl, B2.out⟩
  | true =>
    have hs : s.rt = false := by rw [hr] at h; simpa using h
    rw [hr] at HR
    rw [hs] at HS
    clear h hr hs
    obtain ⟨ra, rb, rc, rd⟩ := r
    obtain ⟨sa, sb, sc, sd⟩ := s
    unfold Bx.v at *
    simp only at HR HS ⊢
    go_enter Try.func4, Try.ntmps4
    go_wp2_with (fail)
    refine (HR.out _).mono ?_
    rintro e w1 ⟨rfl, hb⟩
    have B1 : Hid (Below w.heap.size w w1) := (((Below.refl _ _).alloc (Nat.le_refl _) _).alloc (by simp) _).trans (hb.mono (by simp; try omega))
    have K1 : Hid (Blk w1 (w.heap.size + 1) [.int .i64 sa, .int .i64 sb, .int .i64 sc, .int .i64 sd]) := (blk_at (w.alloc _) _ (by simp) [.int .i64 sa, .int .i64 sb, .int .i64 sc, .int .i64 sd] _).below hb (by simp)
    clear hb
    obtain ⟨⟨c0, c1, c2, c3⟩, -, i0⟩ := K1.out.c4
    go_wp2_with (fail)
    refine (HS.out _).mono ?_
    rintro e w2 ⟨rfl, hb⟩
    have B2 : Hid (Below w.heap.size w w2) := B1.out.trans (hb.mono B1.out.size)
    clear hb c0 c1 c2 c3 i0
    go_wp2_with (fail)
    refine (awake_any _).mono ?_
    rintro e w3 ⟨rfl, hb⟩
    have B3 : Hid (Below w.heap.size w w3) := B2.out.trans (hb.mono B2.out.size)
    clear hb
    go_wp2_with (fail)
    go_ret
    exact ⟨rfl, B3.out⟩
theorem area_emp {r : Bx} (h : r.emp = true) : r.area = 0 := by unfold Bx.area; rw [nrm_tt h]; rfl
theorem area_ne {r : Bx} (h : r.emp = false) : r.area = (r.c - r.a) * (r.d - r.b) := by unfold Bx.area; rw [nrm_ff h]
set_option maxRecDepth 100000 in
set_option maxHeartbeats 4000000 in
theorem rectForms_a (ra rb rc rd : Int) (s : Bx) (w : World) (hr : (⟨ra, rb, rc, rd⟩ : Bx).rt = true) (hs : s.rt = true) (t1 : decide (rc ≤ ra) = true) : Calls Try.prog 4 #[(⟨ra, rb, rc, rd⟩ : Bx).v, s.v] w fun e w' => e = .returned (.bool true) ∧ Below w.heap.size w w' := by
  have HE : Hid ((⟨ra, rb, rc, rd⟩ : Bx).emp = true) := by
    show (decide (rc ≤ ra) || decide (rd ≤ rb)) = _
    rw [t1]; rfl
  have HRT := Lib.hid hr
  have HR := Lib.hid (fun w => right_any ⟨ra, rb, rc, rd⟩ w)
  have HS := Lib.hid (fun w => right_any s w)
  rw [hr] at HR
  rw [hs] at HS
  have HO := Lib.hid (fun w => bx_of ⟨ra, rb, rc, rd⟩ w)
  rw [nrm_tt HE.out, show Bx.o = ⟨0, 0, 0, 0⟩ from rfl] at HO
  have HW := Lib.hid (fun w => bx_within ⟨ra, rb, rc, rd⟩ s w)
  have HWS := Lib.hid (within_spec ⟨ra, rb, rc, rd⟩ s)
  obtain ⟨⟨a1, a2⟩, ⟨b1, b2⟩, ⟨c1, c2⟩, d1, d2⟩ := Bx.rt_of hr
  simp only at a1 a2 b1 b2 c1 c2 d1 d2
  have q1 : IntKind.i64.wrap (rc - ra) = rc - ra := IntWalk.i64_in _ (by omega)
  have q2 : IntKind.i64.wrap (rd - rb) = rd - rb := IntWalk.i64_in _ (by omega)
  have Q1 := Lib.hid q1
  have Q2 := Lib.hid q2
  clear q1 q2 hr hs a1 a2 b1 b2 c1 c2 d1 d2
  obtain ⟨sa, sb, sc, sd⟩ := s
  unfold Bx.v at *
  simp only at HR HS HO HW HWS ⊢
  go_enter Try.func4, Try.ntmps4
  go_wp2_with (fail)
  refine (HR.out _).mono ?_
  rintro e w1 ⟨rfl, hb⟩
  have B1 : Hid (Below w.heap.size w w1) := (((Below.refl _ _).alloc (Nat.le_refl _) _).alloc (by simp) _).trans (hb.mono (by simp; try omega))
  have K1 : Hid (JBs [(w.heap.size, [.int .i64 ra, .int .i64 rb, .int .i64 rc, .int .i64 rd]), (w.heap.size + 1, [.int .i64 sa, .int .i64 sb, .int .i64 sc, .int .i64 sd])] w1) := ⟨((blk_new w [.int .i64 ra, .int .i64 rb, .int .i64 rc, .int .i64 rd] _).alloc _).below hb (by simp; omega), (blk_at (w.alloc _) _ (by simp) [.int .i64 sa, .int .i64 sb, .int .i64 sc, .int .i64 sd] _).below hb (by simp), trivial⟩
  clear hb
  obtain ⟨⟨c0, c1, c2, c3⟩, -, i0⟩ := K1.out.2.1.c4
  go_wp2_with (fail)
  refine (HS.out _).mono ?_
  rintro e w2 ⟨rfl, hb⟩
  have B2 : Hid (Below w.heap.size w w2) := B1.out.trans (hb.mono B1.out.size)
  have K2 := Lib.hid (K1.out.below hb)
  clear hb c0 c1 c2 c3 i0 K1
  go_upto_region 3 with fail
  refine regs.wp_region_seq (regs.bl) (fun _ wx => JBs [(w.heap.size, [.int .i64 ra, .int .i64 rb, .int .i64 rc, .int .i64 rd]), (w.heap.size + 1, [.int .i64 sa, .int .i64 sb, .int .i64 sc, .int .i64 sd])] wx) [17, 18, 19, 20, 21, 22, 23, 24, 25, 26, 27, 28, 5] (by kernel_rfl) (fun _ => regs.bl_refl _) (regs.bl_trans) (fun i => (match i with
    | 0 => regs.Say.val _ (.pointer (some ⟨w.heap.size, 0, none⟩))
    | 1 => regs.Say.val _ (.int .i64 ra)
    | 2 => regs.Say.val _ (.pointer (some ⟨w.heap.size, 2, none⟩))
    | 3 => regs.Say.val _ (.int .i64 rc)
    | 4 => regs.Say.val _ (.bool true)
    | 5 => regs.Say.val _ (.bool true)
    | 6 => regs.Say.val _ (undef)
    | 7 => regs.Say.val _ (undef)
    | 8 => regs.Say.val _ (undef)
    | 9 => regs.Say.val _ (undef)
    | 10 => regs.Say.val _ (undef)
    | 11 => regs.Say.val _ (.bool true)
    | 12 => regs.Say.val _ (.bool true)
    | _ => regs.Say.any _ : regs.Say (regs.bl)).p) (fun _ => regs.Say.mono _) (by kernel_rfl) (K2.out) ⟨?_, ?_, ?_, ?_, ?_, ?_, ?_, ?_, ?_, ?_, ?_, ?_, ?_, trivial⟩ ?_
  · refine regs.StepOK.plain rfl fun L a w1 hh => ?_
    have h2 : a.tmps[2]?.getD undef = .pointer (some ⟨w.heap.size, 0, none⟩) := by rw [← Array.getD_eq_getD_getElem?]; exact hh.old 2 rfl
    have hJ := Lib.hid hh.st
    clear hh
    go_simp
    exact ⟨_, rfl, regs.bl_refl _, rfl, hJ.out⟩
  · refine regs.StepOK.plain rfl fun L a w1 hh => ?_
    have h17 : a.tmps[17]?.getD undef = .pointer (some ⟨w.heap.size, 0, none⟩) := by rw [← Array.getD_eq_getD_getElem?]; exact hh.dep 0 17 (by kernel_rfl) (by kernel_rfl)
    obtain ⟨⟨c0, c1, c2, c3⟩, -, -⟩ := (hh.st.1).c4
    have hJ := Lib.hid hh.st
    clear hh
    go_simp
    exact ⟨_, rfl, regs.bl_refl _, rfl, hJ.out⟩
  · refine regs.StepOK.plain rfl fun L a w1 hh => ?_
    have h2 : a.tmps[2]?.getD undef = .pointer (some ⟨w.heap.size, 0, none⟩) := by rw [← Array.getD_eq_getD_getElem?]; exact hh.old 2 rfl
    have hJ := Lib.hid hh.st
    clear hh
    go_simp
    exact ⟨_, rfl, regs.bl_refl _, rfl, hJ.out⟩
  · refine regs.StepOK.plain rfl fun L a w1 hh => ?_
    have h19 : a.tmps[19]?.getD undef = .pointer (some ⟨w.heap.size, 2, none⟩) := by rw [← Array.getD_eq_getD_getElem?]; exact hh.dep 2 19 (by kernel_rfl) (by kernel_rfl)
    obtain ⟨⟨c0, c1, c2, c3⟩, -, -⟩ := (hh.st.1).c4
    have hJ := Lib.hid hh.st
    clear hh
    go_simp
    exact ⟨_, rfl, regs.bl_refl _, rfl, hJ.out⟩
  · refine regs.StepOK.plain rfl fun L a w1 hh => ?_
    have h18 : a.tmps[18]?.getD undef = .int .i64 ra := by rw [← Array.getD_eq_getD_getElem?]; exact hh.dep 1 18 (by kernel_rfl) (by kernel_rfl)
    have h20 : a.tmps[20]?.getD undef = .int .i64 rc := by rw [← Array.getD_eq_getD_getElem?]; exact hh.dep 3 20 (by kernel_rfl) (by kernel_rfl)
    have hJ := Lib.hid hh.st
    clear hh
    go_simp
    exact ⟨_, rfl, regs.bl_refl _, rfl, hJ.out⟩
  · refine regs.StepOK.plain rfl fun L a w1 hh => ?_
    have h21 : a.tmps[21]?.getD undef = .bool true := by rw [← Array.getD_eq_getD_getElem?]; exact hh.dep 4 21 (by kernel_rfl) (by kernel_rfl)
    have hJ := Lib.hid hh.st
    clear hh
    go_simp
    exact ⟨_, rfl, regs.bl_refl _, rfl, hJ.out⟩
  · refine regs.StepOK.no 5 false 22 rfl rfl (fun L a w1 hh => ?_) fun L a w1 hh => ⟨rfl, hh.st⟩
    exact hh.dep 5 22 (by kernel_rfl) (by kernel_rfl)
  · refine regs.StepOK.no 5 false 22 rfl rfl (fun L a w1 hh => ?_) fun L a w1 hh => ⟨rfl, hh.st⟩
    exact hh.dep 5 22 (by kernel_rfl) (by kernel_rfl)
  · refine regs.StepOK.no 5 false 22 rfl rfl (fun L a w1 hh => ?_) fun L a w1 hh => ⟨rfl, hh.st⟩
    exact hh.dep 5 22 (by kernel_rfl) (by kernel_rfl)
  · refine regs.StepOK.no 5 false 22 rfl rfl (fun L a w1 hh => ?_) fun L a w1 hh => ⟨rfl, hh.st⟩
    exact hh.dep 5 22 (by kernel_rfl) (by kernel_rfl)
  · refine regs.StepOK.no 5 false 22 rfl rfl (fun L a w1 hh => ?_) fun L a w1 hh => ⟨rfl, hh.st⟩
    exact hh.dep 5 22 (by kernel_rfl) (by kernel_rfl)
  · refine regs.StepOK.plain rfl fun L a w1 hh => ?_
    have h22 : a.tmps[22]?.getD undef = .bool true := by rw [← Array.getD_eq_getD_getElem?]; exact hh.dep 5 22 (by kernel_rfl) (by kernel_rfl)
    have hJ := Lib.hid hh.st
    clear hh
    go_simp
    exact ⟨_, rfl, regs.bl_refl _, rfl, hJ.out⟩
  · refine regs.StepOK.plain rfl fun L a w1 hh => ?_
    have h28 : a.tmps[28]?.getD undef = .bool true := by rw [← Array.getD_eq_getD_getElem?]; exact hh.dep 11 28 (by kernel_rfl) (by kernel_rfl)
    have hJ := Lib.hid hh.st
    clear hh
    go_simp
    exact ⟨_, rfl, regs.bl_refl _, rfl, hJ.out⟩
  intro L w3 val hL hJ hR hv
  have h28 : val 28 = .bool true := hv 11 28 (by kernel_rfl)
  have h5 : val 5 = .bool true := hv 12 5 (by kernel_rfl)
  have HJ3 := Lib.hid hJ
  have HR3 := Lib.hid hR
  clear hv hL hJ hR
  simp only [regs.putAll, List.map_cons, List.map_nil]
  rw [h28, h5]
  generalize val 17 = v17
  generalize val 18 = v18
  generalize val 19 = v19
  generalize val 20 = v20
  generalize val 21 = v21
  generalize val 22 = v22
  generalize val 23 = v23
  generalize val 24 = v24
  generalize val 25 = v25
  generalize val 26 = v26
  generalize val 27 = v27
  simp only [Act.put, List.setIfInBounds_toArray, List.set_cons_zero, List.set_cons_succ]
  clear h28 h5
  have B3 : Hid (Below w.heap.size w w3) := B2.out.trans (HR3.out.mono B2.out.size)
  clear HR3
  obtain ⟨⟨c0, c1, c2, c3⟩, -, i0⟩ := HJ3.out.1.c4
  go_wp2_with (fail)
  refine (HO.out _).mono ?_
  rintro e w4 ⟨rfl, hb⟩
  go_upto_region 5 with fail
  have K4 : Hid (JBs [(w4.heap.size, [.int .i64 0, .int .i64 0, .int .i64 0, .int .i64 0]), (w.heap.size, [.int .i64 ra, .int .i64 rb, .int .i64 rc, .int .i64 rd]), (w.heap.size + 1, [.int .i64 sa, .int .i64 sb, .int .i64 sc, .int .i64 sd])] (w4.alloc (.cells #[.int .i64 0, .int .i64 0, .int .i64 0, .int .i64 0] 23))) := ⟨blk_new w4 [.int .i64 0, .int .i64 0, .int .i64 0, .int .i64 0] _, (HJ3.out.below hb).alloc _⟩
  have B4 : Hid (Below w.heap.size w (w4.alloc (.cells #[.int .i64 0, .int .i64 0, .int .i64 0, .int .i64 0] 23))) := (B3.out.trans (hb.mono B3.out.size)).alloc (Nat.le_trans B3.out.size hb.size) _
  clear hb c0 c1 c2 c3 i0 HJ3 t1
  generalize (w4.alloc (.cells #[.int .i64 0, .int .i64 0, .int .i64 0, .int .i64 0] 23)) = w5 at *
  generalize w4.heap.size = gn at *
  refine regs.wp_region_put (regs.bl) (fun _ wx => JBs [(gn, [.int .i64 0, .int .i64 0, .int .i64 0, .int .i64 0]), (w.heap.size, [.int .i64 ra, .int .i64 rb, .int .i64 rc, .int .i64 rd]), (w.heap.size + 1, [.int .i64 sa, .int .i64 sb, .int .i64 sc, .int .i64 sd])] wx) [38, 39, 40, 41, 42, 43, 44, 45, 46, 47, 48, 49, 50, 51, 52, 53, 54, 55, 56, 57, 58, 59, 60, 61, 62, 63, 64, 65, 66, 67, 68, 69, 70, 71, 72, 73, 74, 75, 76, 77, 78, 79, 80, 81, 82, 83, 84, 85] (by kernel_rfl) (by kernel_rfl) (fun _ => regs.bl_refl _) (regs.bl_trans) (fun i => (match i with
    | 0 => regs.Say.val _ (.agg #[.int .i64 ra, .int .i64 rb, .int .i64 rc, .int .i64 rd])
    | 1 => regs.Say.val _ (.bool true)
    | 2 => regs.Say.val _ (.bool true)
    | 3 => regs.Say.val _ (.bool false)
    | 4 => regs.Say.val _ (.bool false)
    | 5 => regs.Say.val _ (.bool true)
    | 6 => regs.Say.val _ (.bool true)
    | 7 => regs.Say.val _ (.agg #[.int .i64 0, .int .i64 0, .int .i64 0, .int .i64 0])
    | 8 => regs.Say.val _ (.agg #[.int .i64 0, .int .i64 0, .int .i64 0, .int .i64 0])
    | 9 => regs.Say.val _ (.bool false)
    | 10 => regs.Say.val _ (.bool false)
    | 11 => regs.Say.val _ (.agg #[.int .i64 ra, .int .i64 rb, .int .i64 rc, .int .i64 rd])
    | 12 => regs.Say.val _ (.int .i64 0)
    | 13 => regs.Say.val _ (.bool false)
    | 14 => regs.Say.val _ (.bool false)
    | 15 => regs.Say.val _ (.bool false)
    | 16 => regs.Say.val _ (.agg #[.int .i64 ra, .int .i64 rb, .int .i64 rc, .int .i64 rd])
    | 17 => regs.Say.val _ (.agg #[.int .i64 sa, .int .i64 sb, .int .i64 sc, .int .i64 sd])
    | 18 => regs.Say.val _ (.bool true)
    | 19 => regs.Say.val _ (.bool false)
    | 20 => regs.Say.val _ (.bool false)
    | 21 => regs.Say.val _ (.bool false)
    | 22 => regs.Say.val _ (.bool false)
    | 23 => regs.Say.val _ (.bool false)
    | 24 => regs.Say.val _ (.bool true)
    | 25 => regs.Say.val _ (.bool false)
    | 26 => regs.Say.val _ (.bool false)
    | 27 => regs.Say.val _ (undef)
    | 28 => regs.Say.val _ (undef)
    | 29 => regs.Say.val _ (undef)
    | 30 => regs.Say.val _ (undef)
    | 31 => regs.Say.val _ (undef)
    | 32 => regs.Say.val _ (undef)
    | 33 => regs.Say.val _ (undef)
    | 34 => regs.Say.val _ (undef)
    | 35 => regs.Say.val _ (undef)
    | 36 => regs.Say.val _ (undef)
    | 37 => regs.Say.val _ (undef)
    | 38 => regs.Say.val _ (undef)
    | 39 => regs.Say.val _ (undef)
    | 40 => regs.Say.val _ (undef)
    | 41 => regs.Say.val _ (undef)
    | 42 => regs.Say.val _ (undef)
    | 43 => regs.Say.val _ (undef)
    | 44 => regs.Say.val _ (undef)
    | 45 => regs.Say.val _ (undef)
    | 46 => regs.Say.val _ (.bool false)
    | 47 => regs.Say.val _ (.bool false)
    | _ => regs.Say.any _ : regs.Say (regs.bl)).p) (fun _ => regs.Say.mono _) (by kernel_rfl) ((Below.refl _ _).drew) (K4.out) ⟨?_, ?_, ?_, ?_, ?_, ?_, ?_, ?_, ?_, ?_, ?_, ?_, ?_, ?_, ?_, ?_, ?_, ?_, ?_, ?_, ?_, ?_, ?_, ?_, ?_, ?_, ?_, ?_, ?_, ?_, ?_, ?_, ?_, ?_, ?_, ?_, ?_, ?_, ?_, ?_, ?_, ?_, ?_, ?_, ?_, ?_, ?_, ?_, trivial⟩ ?_
  · refine regs.StepOK.plain rfl fun L a w1 hh => ?_
    have h2 : a.tmps[2]?.getD undef = .pointer (some ⟨w.heap.size, 0, none⟩) := by rw [← Array.getD_eq_getD_getElem?]; exact hh.old 2 rfl
    obtain ⟨⟨c0, c1, c2, c3⟩, -, -⟩ := (hh.st.2.1).c4
    have hJ := Lib.hid hh.st
    clear hh
    go_simp
    exact ⟨_, rfl, regs.bl_refl _, rfl, hJ.out⟩
  · refine regs.StepOK.plain rfl fun L a w1 hh => ?_
    have h38 : a.tmps[38]?.getD undef = .agg #[.int .i64 ra, .int .i64 rb, .int .i64 rc, .int .i64 rd] := by rw [← Array.getD_eq_getD_getElem?]; exact hh.dep 0 38 (by kernel_rfl) (by kernel_rfl)
    have := True.intro
    have hJ := Lib.hid hh.st
    clear hh
    go_simp
    refine (bx_empty (⟨ra, rb, rc, rd⟩ : Bx) w1).mono ?_
    rintro e w9 ⟨rfl, hb9⟩
    exact ⟨_, rfl, hb9, congrArg Value.bool HE.out, JBs.below hJ.out hb9⟩
  · refine regs.StepOK.plain rfl fun L a w1 hh => ?_
    have h5 : a.tmps[5]?.getD undef = .bool true := by rw [← Array.getD_eq_getD_getElem?]; exact hh.old 5 rfl
    have hJ := Lib.hid hh.st
    clear hh
    go_simp
    exact ⟨_, rfl, regs.bl_refl _, rfl, hJ.out⟩
  · refine regs.StepOK.plain rfl fun L a w1 hh => ?_
    have h39 : a.tmps[39]?.getD undef = .bool true := by rw [← Array.getD_eq_getD_getElem?]; exact hh.dep 1 39 (by kernel_rfl) (by kernel_rfl)
    have h40 : a.tmps[40]?.getD undef = .bool true := by rw [← Array.getD_eq_getD_getElem?]; exact hh.dep 2 40 (by kernel_rfl) (by kernel_rfl)
    have hJ := Lib.hid hh.st
    clear hh
    go_simp
    exact ⟨_, rfl, regs.bl_refl _, rfl, hJ.out⟩
  · refine regs.StepOK.plain rfl fun L a w1 hh => ?_
    have h41 : a.tmps[41]?.getD undef = .bool false := by rw [← Array.getD_eq_getD_getElem?]; exact hh.dep 3 41 (by kernel_rfl) (by kernel_rfl)
    have hJ := Lib.hid hh.st
    clear hh
    go_simp
    exact ⟨_, rfl, regs.bl_refl _, rfl, hJ.out⟩
  · refine regs.StepOK.yes 4 false 42 rfl rfl (fun L a w1 hh => hh.dep 4 42 (by kernel_rfl) (by kernel_rfl)) fun L a w1 hh => ?_
    have h5 : a.tmps[5]?.getD undef = .bool true := by rw [← Array.getD_eq_getD_getElem?]; exact hh.old 5 rfl
    have hJ := Lib.hid hh.st
    clear hh
    go_simp
    exact ⟨_, rfl, regs.bl_refl _, rfl, hJ.out⟩
  · refine regs.StepOK.yes 4 false 42 rfl rfl (fun L a w1 hh => hh.dep 4 42 (by kernel_rfl) (by kernel_rfl)) fun L a w1 hh => ?_
    have h43 : a.tmps[43]?.getD undef = .bool true := by rw [← Array.getD_eq_getD_getElem?]; exact hh.dep 5 43 (by kernel_rfl) (by kernel_rfl)
    have hJ := Lib.hid hh.st
    clear hh
    go_simp
    exact ⟨_, rfl, regs.bl_refl _, rfl, hJ.out⟩
  · refine regs.StepOK.yes 6 true 44 rfl rfl (fun L a w1 hh => hh.dep 6 44 (by kernel_rfl) (by kernel_rfl)) fun L a w1 hh => ?_
    have h6 : a.tmps[6]?.getD undef = .pointer (some ⟨gn, 0, none⟩) := by rw [← Array.getD_eq_getD_getElem?]; exact hh.old 6 rfl
    obtain ⟨⟨c0, c1, c2, c3⟩, -, -⟩ := (hh.st.1).c4
    have hJ := Lib.hid hh.st
    clear hh
    go_simp
    exact ⟨_, rfl, regs.bl_refl _, rfl, hJ.out⟩
  · refine regs.StepOK.yes 6 true 44 rfl rfl (fun L a w1 hh => hh.dep 6 44 (by kernel_rfl) (by kernel_rfl)) fun L a w1 hh => ?_
    have hJ := Lib.hid hh.st
    clear hh
    go_simp
    exact ⟨_, rfl, regs.bl_refl _, rfl, hJ.out⟩
  · refine regs.StepOK.yes 6 true 44 rfl rfl (fun L a w1 hh => hh.dep 6 44 (by kernel_rfl) (by kernel_rfl)) fun L a w1 hh => ?_
    have h45 : a.tmps[45]?.getD undef = .agg #[.int .i64 0, .int .i64 0, .int .i64 0, .int .i64 0] := by rw [← Array.getD_eq_getD_getElem?]; exact hh.dep 7 45 (by kernel_rfl) (by kernel_rfl)
    have h46 : a.tmps[46]?.getD undef = .agg #[.int .i64 0, .int .i64 0, .int .i64 0, .int .i64 0] := by rw [← Array.getD_eq_getD_getElem?]; exact hh.dep 8 46 (by kernel_rfl) (by kernel_rfl)
    have eqst := fun w => bx_neq (⟨0, 0, 0, 0⟩ : Bx) (⟨0, 0, 0, 0⟩ : Bx) w
    rw [show (!decide ((⟨0, 0, 0, 0⟩ : Bx) = (⟨0, 0, 0, 0⟩ : Bx))) = false from by decide] at eqst
    unfold Bx.v at eqst
    simp only at eqst
    have hJ := Lib.hid hh.st
    clear hh
    go_simp
    exact ⟨_, rfl, regs.bl_refl _, rfl, hJ.out⟩
  · refine regs.StepOK.yes 6 true 44 rfl rfl (fun L a w1 hh => hh.dep 6 44 (by kernel_rfl) (by kernel_rfl)) fun L a w1 hh => ?_
    have h47 : a.tmps[47]?.getD undef = .bool false := by rw [← Array.getD_eq_getD_getElem?]; exact hh.dep 9 47 (by kernel_rfl) (by kernel_rfl)
    have hJ := Lib.hid hh.st
    clear hh
    go_simp
    exact ⟨_, rfl, regs.bl_refl _, rfl, hJ.out⟩
  · refine regs.StepOK.yes 10 false 48 rfl rfl (fun L a w1 hh => hh.dep 10 48 (by kernel_rfl) (by kernel_rfl)) fun L a w1 hh => ?_
    have h2 : a.tmps[2]?.getD undef = .pointer (some ⟨w.heap.size, 0, none⟩) := by rw [← Array.getD_eq_getD_getElem?]; exact hh.old 2 rfl
    obtain ⟨⟨c0, c1, c2, c3⟩, -, -⟩ := (hh.st.2.1).c4
    have hJ := Lib.hid hh.st
    clear hh
    go_simp
    exact ⟨_, rfl, regs.bl_refl _, rfl, hJ.out⟩
  · refine regs.StepOK.yes 10 false 48 rfl rfl (fun L a w1 hh => hh.dep 10 48 (by kernel_rfl) (by kernel_rfl)) fun L a w1 hh => ?_
    have h49 : a.tmps[49]?.getD undef = .agg #[.int .i64 ra, .int .i64 rb, .int .i64 rc, .int .i64 rd] := by rw [← Array.getD_eq_getD_getElem?]; exact hh.dep 11 49 (by kernel_rfl) (by kernel_rfl)
    have := True.intro
    have hJ := Lib.hid hh.st
    clear hh
    go_simp
    refine (bx_area (⟨ra, rb, rc, rd⟩ : Bx) w1 HRT.out).mono ?_
    rintro e w9 ⟨rfl, hb9⟩
    exact ⟨_, rfl, hb9, congrArg (Value.int .i64) (area_emp HE.out), JBs.below hJ.out hb9⟩
  · refine regs.StepOK.yes 10 false 48 rfl rfl (fun L a w1 hh => hh.dep 10 48 (by kernel_rfl) (by kernel_rfl)) fun L a w1 hh => ?_
    have h50 : a.tmps[50]?.getD undef = .int .i64 0 := by rw [← Array.getD_eq_getD_getElem?]; exact hh.dep 12 50 (by kernel_rfl) (by kernel_rfl)
    have hJ := Lib.hid hh.st
    clear hh
    go_simp
    exact ⟨_, rfl, regs.bl_refl _, rfl, hJ.out⟩
  · refine regs.StepOK.yes 6 true 44 rfl rfl (fun L a w1 hh => hh.dep 6 44 (by kernel_rfl) (by kernel_rfl)) fun L a w1 hh => ?_
    have h48 : a.tmps[48]?.getD undef = .bool false := by rw [← Array.getD_eq_getD_getElem?]; exact hh.dep 10 48 (by kernel_rfl) (by kernel_rfl)
    have h51 : a.tmps[51]?.getD undef = .bool false := by rw [← Array.getD_eq_getD_getElem?]; exact hh.dep 13 51 (by kernel_rfl) (by kernel_rfl)
    have hJ := Lib.hid hh.st
    clear hh
    go_simp
    exact ⟨_, rfl, regs.bl_refl _, rfl, hJ.out⟩
  · refine regs.StepOK.yes 6 true 44 rfl rfl (fun L a w1 hh => hh.dep 6 44 (by kernel_rfl) (by kernel_rfl)) fun L a w1 hh => ?_
    have h52 : a.tmps[52]?.getD undef = .bool false := by rw [← Array.getD_eq_getD_getElem?]; exact hh.dep 14 52 (by kernel_rfl) (by kernel_rfl)
    have hJ := Lib.hid hh.st
    clear hh
    go_simp
    exact ⟨_, rfl, regs.bl_refl _, rfl, hJ.out⟩
  · refine regs.StepOK.yes 15 false 53 rfl rfl (fun L a w1 hh => hh.dep 15 53 (by kernel_rfl) (by kernel_rfl)) fun L a w1 hh => ?_
    have h2 : a.tmps[2]?.getD undef = .pointer (some ⟨w.heap.size, 0, none⟩) := by rw [← Array.getD_eq_getD_getElem?]; exact hh.old 2 rfl
    obtain ⟨⟨c0, c1, c2, c3⟩, -, -⟩ := (hh.st.2.1).c4
    have hJ := Lib.hid hh.st
    clear hh
    go_simp
    exact ⟨_, rfl, regs.bl_refl _, rfl, hJ.out⟩
  · refine regs.StepOK.yes 15 false 53 rfl rfl (fun L a w1 hh => hh.dep 15 53 (by kernel_rfl) (by kernel_rfl)) fun L a w1 hh => ?_
    have h3 : a.tmps[3]?.getD undef = .pointer (some ⟨(w.heap.size + 1), 0, none⟩) := by rw [← Array.getD_eq_getD_getElem?]; exact hh.old 3 rfl
    obtain ⟨⟨c0, c1, c2, c3⟩, -, -⟩ := (hh.st.2.2.1).c4
    have hJ := Lib.hid hh.st
    clear hh
    go_simp
    exact ⟨_, rfl, regs.bl_refl _, rfl, hJ.out⟩
  · refine regs.StepOK.yes 15 false 53 rfl rfl (fun L a w1 hh => hh.dep 15 53 (by kernel_rfl) (by kernel_rfl)) fun L a w1 hh => ?_
    have h54 : a.tmps[54]?.getD undef = .agg #[.int .i64 ra, .int .i64 rb, .int .i64 rc, .int .i64 rd] := by rw [← Array.getD_eq_getD_getElem?]; exact hh.dep 16 54 (by kernel_rfl) (by kernel_rfl)
    have h55 : a.tmps[55]?.getD undef = .agg #[.int .i64 sa, .int .i64 sb, .int .i64 sc, .int .i64 sd] := by rw [← Array.getD_eq_getD_getElem?]; exact hh.dep 17 55 (by kernel_rfl) (by kernel_rfl)
    have := True.intro
    have hJ := Lib.hid hh.st
    clear hh
    go_simp
    refine (bx_within (⟨ra, rb, rc, rd⟩ : Bx) (⟨sa, sb, sc, sd⟩ : Bx) w1).mono ?_
    rintro e w9 ⟨rfl, hb9⟩
    exact ⟨_, rfl, hb9, congrArg Value.bool (within_emp HE.out), JBs.below hJ.out hb9⟩
  · refine regs.StepOK.yes 15 false 53 rfl rfl (fun L a w1 hh => hh.dep 15 53 (by kernel_rfl) (by kernel_rfl)) fun L a w1 hh => ?_
    have h56 : a.tmps[56]?.getD undef = .bool true := by rw [← Array.getD_eq_getD_getElem?]; exact hh.dep 18 56 (by kernel_rfl) (by kernel_rfl)
    have hJ := Lib.hid hh.st
    clear hh
    go_simp
    exact ⟨_, rfl, regs.bl_refl _, rfl, hJ.out⟩
  · refine regs.StepOK.yes 6 true 44 rfl rfl (fun L a w1 hh => hh.dep 6 44 (by kernel_rfl) (by kernel_rfl)) fun L a w1 hh => ?_
    have h53 : a.tmps[53]?.getD undef = .bool false := by rw [← Array.getD_eq_getD_getElem?]; exact hh.dep 15 53 (by kernel_rfl) (by kernel_rfl)
    have h57 : a.tmps[57]?.getD undef = .bool false := by rw [← Array.getD_eq_getD_getElem?]; exact hh.dep 19 57 (by kernel_rfl) (by kernel_rfl)
    have hJ := Lib.hid hh.st
    clear hh
    go_simp
    exact ⟨_, rfl, regs.bl_refl _, rfl, hJ.out⟩
  · refine regs.StepOK.yes 4 false 42 rfl rfl (fun L a w1 hh => hh.dep 4 42 (by kernel_rfl) (by kernel_rfl)) fun L a w1 hh => ?_
    have h44 : a.tmps[44]?.getD undef = .bool true := by rw [← Array.getD_eq_getD_getElem?]; exact hh.dep 6 44 (by kernel_rfl) (by kernel_rfl)
    have h58 : a.tmps[58]?.getD undef = .bool false := by rw [← Array.getD_eq_getD_getElem?]; exact hh.dep 20 58 (by kernel_rfl) (by kernel_rfl)
    have hJ := Lib.hid hh.st
    clear hh
    go_simp
    exact ⟨_, rfl, regs.bl_refl _, rfl, hJ.out⟩
  · refine regs.StepOK.plain rfl fun L a w1 hh => ?_
    have h42 : a.tmps[42]?.getD undef = .bool false := by rw [← Array.getD_eq_getD_getElem?]; exact hh.dep 4 42 (by kernel_rfl) (by kernel_rfl)
    have h59 : a.tmps[59]?.getD undef = .bool false := by rw [← Array.getD_eq_getD_getElem?]; exact hh.dep 21 59 (by kernel_rfl) (by kernel_rfl)
    have hJ := Lib.hid hh.st
    clear hh
    go_simp
    exact ⟨_, rfl, regs.bl_refl _, rfl, hJ.out⟩
  · refine regs.StepOK.plain rfl fun L a w1 hh => ?_
    have h60 : a.tmps[60]?.getD undef = .bool false := by rw [← Array.getD_eq_getD_getElem?]; exact hh.dep 22 60 (by kernel_rfl) (by kernel_rfl)
    have hJ := Lib.hid hh.st
    clear hh
    go_simp
    exact ⟨_, rfl, regs.bl_refl _, rfl, hJ.out⟩
  · refine regs.StepOK.yes 23 false 61 rfl rfl (fun L a w1 hh => hh.dep 23 61 (by kernel_rfl) (by kernel_rfl)) fun L a w1 hh => ?_
    have h5 : a.tmps[5]?.getD undef = .bool true := by rw [← Array.getD_eq_getD_getElem?]; exact hh.old 5 rfl
    have hJ := Lib.hid hh.st
    clear hh
    go_simp
    exact ⟨_, rfl, regs.bl_refl _, rfl, hJ.out⟩
  · refine regs.StepOK.yes 23 false 61 rfl rfl (fun L a w1 hh => hh.dep 23 61 (by kernel_rfl) (by kernel_rfl)) fun L a w1 hh => ?_
    have h62 : a.tmps[62]?.getD undef = .bool true := by rw [← Array.getD_eq_getD_getElem?]; exact hh.dep 24 62 (by kernel_rfl) (by kernel_rfl)
    have hJ := Lib.hid hh.st
    clear hh
    go_simp
    exact ⟨_, rfl, regs.bl_refl _, rfl, hJ.out⟩
  · refine regs.StepOK.yes 23 false 61 rfl rfl (fun L a w1 hh => hh.dep 23 61 (by kernel_rfl) (by kernel_rfl)) fun L a w1 hh => ?_
    have h63 : a.tmps[63]?.getD undef = .bool false := by rw [← Array.getD_eq_getD_getElem?]; exact hh.dep 25 63 (by kernel_rfl) (by kernel_rfl)
    have hJ := Lib.hid hh.st
    clear hh
    go_simp
    exact ⟨_, rfl, regs.bl_refl _, rfl, hJ.out⟩
  · refine regs.StepOK.no 26 true 64 rfl rfl (fun L a w1 hh => ?_) fun L a w1 hh => ⟨rfl, hh.st⟩
    exact hh.dep 26 64 (by kernel_rfl) (by kernel_rfl)
  · refine regs.StepOK.no 26 true 64 rfl rfl (fun L a w1 hh => ?_) fun L a w1 hh => ⟨rfl, hh.st⟩
    exact hh.dep 26 64 (by kernel_rfl) (by kernel_rfl)
  · refine regs.StepOK.no 26 true 64 rfl rfl (fun L a w1 hh => ?_) fun L a w1 hh => ⟨rfl, hh.st⟩
    exact hh.dep 26 64 (by kernel_rfl) (by kernel_rfl)
  · refine regs.StepOK.no 26 true 64 rfl rfl (fun L a w1 hh => ?_) fun L a w1 hh => ⟨rfl, hh.st⟩
    exact hh.dep 26 64 (by kernel_rfl) (by kernel_rfl)
  · refine regs.StepOK.out_ 30 false 68 rfl rfl (fun L a w1 hh => ?_) fun L a w1 hh => ⟨rfl, hh.st⟩
    exact hh.dep 30 68 (by kernel_rfl) (by kernel_rfl)
  · refine regs.StepOK.out_ 30 false 68 rfl rfl (fun L a w1 hh => ?_) fun L a w1 hh => ⟨rfl, hh.st⟩
    exact hh.dep 30 68 (by kernel_rfl) (by kernel_rfl)
  · refine regs.StepOK.out_ 30 false 68 rfl rfl (fun L a w1 hh => ?_) fun L a w1 hh => ⟨rfl, hh.st⟩
    exact hh.dep 30 68 (by kernel_rfl) (by kernel_rfl)
  · refine regs.StepOK.out_ 30 false 68 rfl rfl (fun L a w1 hh => ?_) fun L a w1 hh => ⟨rfl, hh.st⟩
    exact hh.dep 30 68 (by kernel_rfl) (by kernel_rfl)
  · refine regs.StepOK.out_ 30 false 68 rfl rfl (fun L a w1 hh => ?_) fun L a w1 hh => ⟨rfl, hh.st⟩
    exact hh.dep 30 68 (by kernel_rfl) (by kernel_rfl)
  · refine regs.StepOK.out_ 30 false 68 rfl rfl (fun L a w1 hh => ?_) fun L a w1 hh => ⟨rfl, hh.st⟩
    exact hh.dep 30 68 (by kernel_rfl) (by kernel_rfl)
  · refine regs.StepOK.out_ 30 false 68 rfl rfl (fun L a w1 hh => ?_) fun L a w1 hh => ⟨rfl, hh.st⟩
    exact hh.dep 30 68 (by kernel_rfl) (by kernel_rfl)
  · refine regs.StepOK.out_ 30 false 68 rfl rfl (fun L a w1 hh => ?_) fun L a w1 hh => ⟨rfl, hh.st⟩
    exact hh.dep 30 68 (by kernel_rfl) (by kernel_rfl)
  · refine regs.StepOK.out_ 30 false 68 rfl rfl (fun L a w1 hh => ?_) fun L a w1 hh => ⟨rfl, hh.st⟩
    exact hh.dep 30 68 (by kernel_rfl) (by kernel_rfl)
  · refine regs.StepOK.out_ 30 false 68 rfl rfl (fun L a w1 hh => ?_) fun L a w1 hh => ⟨rfl, hh.st⟩
    exact hh.dep 30 68 (by kernel_rfl) (by kernel_rfl)
  · refine regs.StepOK.out_ 30 false 68 rfl rfl (fun L a w1 hh => ?_) fun L a w1 hh => ⟨rfl, hh.st⟩
    exact hh.dep 30 68 (by kernel_rfl) (by kernel_rfl)
  · refine regs.StepOK.out_ 30 false 68 rfl rfl (fun L a w1 hh => ?_) fun L a w1 hh => ⟨rfl, hh.st⟩
    exact hh.dep 30 68 (by kernel_rfl) (by kernel_rfl)
  · refine regs.StepOK.out_ 30 false 68 rfl rfl (fun L a w1 hh => ?_) fun L a w1 hh => ⟨rfl, hh.st⟩
    exact hh.dep 30 68 (by kernel_rfl) (by kernel_rfl)
  · refine regs.StepOK.out_ 30 false 68 rfl rfl (fun L a w1 hh => ?_) fun L a w1 hh => ⟨rfl, hh.st⟩
    exact hh.dep 30 68 (by kernel_rfl) (by kernel_rfl)
  · refine regs.StepOK.no 26 true 64 rfl rfl (fun L a w1 hh => ?_) fun L a w1 hh => ⟨rfl, hh.st⟩
    exact hh.dep 26 64 (by kernel_rfl) (by kernel_rfl)
  · refine regs.StepOK.yes 23 false 61 rfl rfl (fun L a w1 hh => hh.dep 23 61 (by kernel_rfl) (by kernel_rfl)) fun L a w1 hh => ?_
    have h64 : a.tmps[64]?.getD undef = .bool false := by rw [← Array.getD_eq_getD_getElem?]; exact hh.dep 26 64 (by kernel_rfl) (by kernel_rfl)
    have hJ := Lib.hid hh.st
    clear hh
    go_simp
    exact ⟨_, rfl, regs.bl_refl _, rfl, hJ.out⟩
  · refine regs.StepOK.plain rfl fun L a w1 hh => ?_
    have h61 : a.tmps[61]?.getD undef = .bool false := by rw [← Array.getD_eq_getD_getElem?]; exact hh.dep 23 61 (by kernel_rfl) (by kernel_rfl)
    have h84 : a.tmps[84]?.getD undef = .bool false := by rw [← Array.getD_eq_getD_getElem?]; exact hh.dep 46 84 (by kernel_rfl) (by kernel_rfl)
    have hJ := Lib.hid hh.st
    clear hh
    go_simp
    exact ⟨_, rfl, regs.bl_refl _, rfl, hJ.out⟩
  intro L w6 val hL hJ hR hv
  have h85 : val 85 = .bool false := hv 47 85 (by kernel_rfl)
  have HJ6 := Lib.hid hJ
  have HR6 := Lib.hid hR
  clear hv hL hJ hR
  simp only [regs.putAll, List.map_cons, List.map_nil]
  rw [h85]
  generalize val 38 = v38
  generalize val 39 = v39
  generalize val 40 = v40
  generalize val 41 = v41
  generalize val 42 = v42
  generalize val 43 = v43
  generalize val 44 = v44
  generalize val 45 = v45
  generalize val 46 = v46
  generalize val 47 = v47
  generalize val 48 = v48
  generalize val 49 = v49
  generalize val 50 = v50
  generalize val 51 = v51
  generalize val 52 = v52
  generalize val 53 = v53
  generalize val 54 = v54
  generalize val 55 = v55
  generalize val 56 = v56
  generalize val 57 = v57
  generalize val 58 = v58
  generalize val 59 = v59
  generalize val 60 = v60
  generalize val 61 = v61
  generalize val 62 = v62
  generalize val 63 = v63
  generalize val 64 = v64
  generalize val 65 = v65
  generalize val 66 = v66
  generalize val 67 = v67
  generalize val 68 = v68
  generalize val 69 = v69
  generalize val 70 = v70
  generalize val 71 = v71
  generalize val 72 = v72
  generalize val 73 = v73
  generalize val 74 = v74
  generalize val 75 = v75
  generalize val 76 = v76
  generalize val 77 = v77
  generalize val 78 = v78
  generalize val 79 = v79
  generalize val 80 = v80
  generalize val 81 = v81
  generalize val 82 = v82
  generalize val 83 = v83
  generalize val 84 = v84
  simp only [Act.put, List.setIfInBounds_toArray, List.set_cons_zero, List.set_cons_succ]
  clear h85
  have B6 : Hid (Below w.heap.size w w6) := B4.out.trans (HR6.out.mono B4.out.size)
  clear HR6
  obtain ⟨⟨c0, c1, c2, c3⟩, -, i0⟩ := HJ6.out.2.1.c4
  obtain ⟨⟨d0, d1, d2, d3⟩, -, i1⟩ := HJ6.out.2.2.1.c4
  rw [HE.out, Bool.true_or] at HWS
  rw [HWS.out] at HW
  go_wp2_with (fail)
  refine (HW.out _).mono ?_
  rintro e w7 ⟨rfl, hb⟩
  have B7 : Hid (Below w.heap.size w w7) := B6.out.trans (hb.mono B6.out.size)
  clear hb c0 c1 c2 c3 d0 d1 d2 d3
  go_wp2_with (fail)
  refine (awake_any _).mono ?_
  rintro e w8 ⟨rfl, hb⟩
  have B8 : Hid (Below w.heap.size w w8) := B7.out.trans (hb.mono B7.out.size)
  clear hb
  go_wp2_with (fail)
  go_ret
  exact ⟨rfl, B8.out⟩
set_option maxRecDepth 100000 in
set_option maxHeartbeats 4000000 in
theorem rectForms_b (ra rb rc rd : Int) (s : Bx) (w : World) (hr : (⟨ra, rb, rc, rd⟩ : Bx).rt = true) (hs : s.rt = true) (t1 : decide (rc ≤ ra) = false) (t2 : decide (rd ≤ rb) = true) : Calls Try.prog 4 #[(⟨ra, rb, rc, rd⟩ : Bx).v, s.v] w fun e w' => e = .returned (.bool true) ∧ Below w.heap.size w w' := by
  have HE : Hid ((⟨ra, rb, rc, rd⟩ : Bx).emp = true) := by
    show (decide (rc ≤ ra) || decide (rd ≤ rb)) = _
    rw [t1, t2]; rfl
  have HRT := Lib.hid hr
  have HR := Lib.hid (fun w => right_any ⟨ra, rb, rc, rd⟩ w)
  have HS := Lib.hid (fun w => right_any s w)
  rw [hr] at HR
  rw [hs] at HS
  have HO := Lib.hid (fun w => bx_of ⟨ra, rb, rc, rd⟩ w)
  rw [nrm_tt HE.out, show Bx.o = ⟨0, 0, 0, 0⟩ from rfl] at HO
  have HW := Lib.hid (fun w => bx_within ⟨ra, rb, rc, rd⟩ s w)
  have HWS := Lib.hid (within_spec ⟨ra, rb, rc, rd⟩ s)
  obtain ⟨⟨a1, a2⟩, ⟨b1, b2⟩, ⟨c1, c2⟩, d1, d2⟩ := Bx.rt_of hr
  simp only at a1 a2 b1 b2 c1 c2 d1 d2
  have q1 : IntKind.i64.wrap (rc - ra) = rc - ra := IntWalk.i64_in _ (by omega)
  have q2 : IntKind.i64.wrap (rd - rb) = rd - rb := IntWalk.i64_in _ (by omega)
  have Q1 := Lib.hid q1
  have Q2 := Lib.hid q2
  clear q1 q2 hr hs a1 a2 b1 b2 c1 c2 d1 d2
  obtain ⟨sa, sb, sc, sd⟩ := s
  unfold Bx.v at *
  simp only at HR HS HO HW HWS ⊢
  go_enter Try.func4, Try.ntmps4
  go_wp2_with (fail)
  refine (HR.out _).mono ?_
  rintro e w1 ⟨rfl, hb⟩
  have B1 : Hid (Below w.heap.size w w1) := (((Below.refl _ _).alloc (Nat.le_refl _) _).alloc (by simp) _).trans (hb.mono (by simp; try omega))
  have K1 : Hid (JBs [(w.heap.size, [.int .i64 ra, .int .i64 rb, .int .i64 rc, .int .i64 rd]), (w.heap.size + 1, [.int .i64 sa, .int .i64 sb, .int .i64 sc, .int .i64 sd])] w1) := ⟨((blk_new w [.int .i64 ra, .int .i64 rb, .int .i64 rc, .int .i64 rd] _).alloc _).below hb (by simp; omega), (blk_at (w.alloc _) _ (by simp) [.int .i64 sa, .int .i64 sb, .int .i64 sc, .int .i64 sd] _).below hb (by simp), trivial⟩
  clear hb
  obtain ⟨⟨c0, c1, c2, c3⟩, -, i0⟩ := K1.out.2.1.c4
  go_wp2_with (fail)
  refine (HS.out _).mono ?_
  rintro e w2 ⟨rfl, hb⟩
  have B2 : Hid (Below w.heap.size w w2) := B1.out.trans (hb.mono B1.out.size)
  have K2 := Lib.hid (K1.out.below hb)
  clear hb c0 c1 c2 c3 i0 K1
  go_upto_region 3 with fail
  refine regs.wp_region_seq (regs.bl) (fun _ wx => JBs [(w.heap.size, [.int .i64 ra, .int .i64 rb, .int .i64 rc, .int .i64 rd]), (w.heap.size + 1, [.int .i64 sa, .int .i64 sb, .int .i64 sc, .int .i64 sd])] wx) [17, 18, 19, 20, 21, 22, 23, 24, 25, 26, 27, 28, 5] (by kernel_rfl) (fun _ => regs.bl_refl _) (regs.bl_trans) (fun i => (match i with
    | 0 => regs.Say.val _ (.pointer (some ⟨w.heap.size, 0, none⟩))
    | 1 => regs.Say.val _ (.int .i64 ra)
    | 2 => regs.Say.val _ (.pointer (some ⟨w.heap.size, 2, none⟩))
    | 3 => regs.Say.val _ (.int .i64 rc)
    | 4 => regs.Say.val _ (.bool false)
    | 5 => regs.Say.val _ (.bool false)
    | 6 => regs.Say.val _ (.pointer (some ⟨w.heap.size, 1, none⟩))
    | 7 => regs.Say.val _ (.int .i64 rb)
    | 8 => regs.Say.val _ (.pointer (some ⟨w.heap.size, 3, none⟩))
    | 9 => regs.Say.val _ (.int .i64 rd)
    | 10 => regs.Say.val _ (.bool true)
    | 11 => regs.Say.val _ (.bool true)
    | 12 => regs.Say.val _ (.bool true)
    | _ => regs.Say.any _ : regs.Say (regs.bl)).p) (fun _ => regs.Say.mono _) (by kernel_rfl) (K2.out) ⟨?_, ?_, ?_, ?_, ?_, ?_, ?_, ?_, ?_, ?_, ?_, ?_, ?_, trivial⟩ ?_
  · refine regs.StepOK.plain rfl fun L a w1 hh => ?_
    have h2 : a.tmps[2]?.getD undef = .pointer (some ⟨w.heap.size, 0, none⟩) := by rw [← Array.getD_eq_getD_getElem?]; exact hh.old 2 rfl
    have hJ := Lib.hid hh.st
    clear hh
    go_simp
    exact ⟨_, rfl, regs.bl_refl _, rfl, hJ.out⟩
  · refine regs.StepOK.plain rfl fun L a w1 hh => ?_
    have h17 : a.tmps[17]?.getD undef = .pointer (some ⟨w.heap.size, 0, none⟩) := by rw [← Array.getD_eq_getD_getElem?]; exact hh.dep 0 17 (by kernel_rfl) (by kernel_rfl)
    obtain ⟨⟨c0, c1, c2, c3⟩, -, -⟩ := (hh.st.1).c4
    have hJ := Lib.hid hh.st
    clear hh
    go_simp
    exact ⟨_, rfl, regs.bl_refl _, rfl, hJ.out⟩
  · refine regs.StepOK.plain rfl fun L a w1 hh => ?_
    have h2 : a.tmps[2]?.getD undef = .pointer (some ⟨w.heap.size, 0, none⟩) := by rw [← Array.getD_eq_getD_getElem?]; exact hh.old 2 rfl
    have hJ := Lib.hid hh.st
    clear hh
    go_simp
    exact ⟨_, rfl, regs.bl_refl _, rfl, hJ.out⟩
  · refine regs.StepOK.plain rfl fun L a w1 hh => ?_
    have h19 : a.tmps[19]?.getD undef = .pointer (some ⟨w.heap.size, 2, none⟩) := by rw [← Array.getD_eq_getD_getElem?]; exact hh.dep 2 19 (by kernel_rfl) (by kernel_rfl)
    obtain ⟨⟨c0, c1, c2, c3⟩, -, -⟩ := (hh.st.1).c4
    have hJ := Lib.hid hh.st
    clear hh
    go_simp
    exact ⟨_, rfl, regs.bl_refl _, rfl, hJ.out⟩
  · refine regs.StepOK.plain rfl fun L a w1 hh => ?_
    have h18 : a.tmps[18]?.getD undef = .int .i64 ra := by rw [← Array.getD_eq_getD_getElem?]; exact hh.dep 1 18 (by kernel_rfl) (by kernel_rfl)
    have h20 : a.tmps[20]?.getD undef = .int .i64 rc := by rw [← Array.getD_eq_getD_getElem?]; exact hh.dep 3 20 (by kernel_rfl) (by kernel_rfl)
    have hJ := Lib.hid hh.st
    clear hh
    go_simp
    exact ⟨_, rfl, regs.bl_refl _, rfl, hJ.out⟩
  · refine regs.StepOK.plain rfl fun L a w1 hh => ?_
    have h21 : a.tmps[21]?.getD undef = .bool false := by rw [← Array.getD_eq_getD_getElem?]; exact hh.dep 4 21 (by kernel_rfl) (by kernel_rfl)
    have hJ := Lib.hid hh.st
    clear hh
    go_simp
    exact ⟨_, rfl, regs.bl_refl _, rfl, hJ.out⟩
  · refine regs.StepOK.yes 5 false 22 rfl rfl (fun L a w1 hh => hh.dep 5 22 (by kernel_rfl) (by kernel_rfl)) fun L a w1 hh => ?_
    have h2 : a.tmps[2]?.getD undef = .pointer (some ⟨w.heap.size, 0, none⟩) := by rw [← Array.getD_eq_getD_getElem?]; exact hh.old 2 rfl
    have hJ := Lib.hid hh.st
    clear hh
    go_simp
    exact ⟨_, rfl, regs.bl_refl _, rfl, hJ.out⟩
  · refine regs.StepOK.yes 5 false 22 rfl rfl (fun L a w1 hh => hh.dep 5 22 (by kernel_rfl) (by kernel_rfl)) fun L a w1 hh => ?_
    have h23 : a.tmps[23]?.getD undef = .pointer (some ⟨w.heap.size, 1, none⟩) := by rw [← Array.getD_eq_getD_getElem?]; exact hh.dep 6 23 (by kernel_rfl) (by kernel_rfl)
    obtain ⟨⟨c0, c1, c2, c3⟩, -, -⟩ := (hh.st.1).c4
    have hJ := Lib.hid hh.st
    clear hh
    go_simp
    exact ⟨_, rfl, regs.bl_refl _, rfl, hJ.out⟩
  · refine regs.StepOK.yes 5 false 22 rfl rfl (fun L a w1 hh => hh.dep 5 22 (by kernel_rfl) (by kernel_rfl)) fun L a w1 hh => ?_
    have h2 : a.tmps[2]?.getD undef = .pointer (some ⟨w.heap.size, 0, none⟩) := by rw [← Array.getD_eq_getD_getElem?]; exact hh.old 2 rfl
    have hJ := Lib.hid hh.st
    clear hh
    go_simp
    exact ⟨_, rfl, regs.bl_refl _, rfl, hJ.out⟩
  · refine regs.StepOK.yes 5 false 22 rfl rfl (fun L a w1 hh => hh.dep 5 22 (by kernel_rfl) (by kernel_rfl)) fun L a w1 hh => ?_
    have h25 : a.tmps[25]?.getD undef = .pointer (some ⟨w.heap.size, 3, none⟩) := by rw [← Array.getD_eq_getD_getElem?]; exact hh.dep 8 25 (by kernel_rfl) (by kernel_rfl)
    obtain ⟨⟨c0, c1, c2, c3⟩, -, -⟩ := (hh.st.1).c4
    have hJ := Lib.hid hh.st
    clear hh
    go_simp
    exact ⟨_, rfl, regs.bl_refl _, rfl, hJ.out⟩
  · refine regs.StepOK.yes 5 false 22 rfl rfl (fun L a w1 hh => hh.dep 5 22 (by kernel_rfl) (by kernel_rfl)) fun L a w1 hh => ?_
    have h24 : a.tmps[24]?.getD undef = .int .i64 rb := by rw [← Array.getD_eq_getD_getElem?]; exact hh.dep 7 24 (by kernel_rfl) (by kernel_rfl)
    have h26 : a.tmps[26]?.getD undef = .int .i64 rd := by rw [← Array.getD_eq_getD_getElem?]; exact hh.dep 9 26 (by kernel_rfl) (by kernel_rfl)
    have hJ := Lib.hid hh.st
    clear hh
    go_simp
    exact ⟨_, rfl, regs.bl_refl _, rfl, hJ.out⟩
  · refine regs.StepOK.plain rfl fun L a w1 hh => ?_
    have h22 : a.tmps[22]?.getD undef = .bool false := by rw [← Array.getD_eq_getD_getElem?]; exact hh.dep 5 22 (by kernel_rfl) (by kernel_rfl)
    have h27 : a.tmps[27]?.getD undef = .bool true := by rw [← Array.getD_eq_getD_getElem?]; exact hh.dep 10 27 (by kernel_rfl) (by kernel_rfl)
    have hJ := Lib.hid hh.st
    clear hh
    go_simp
    exact ⟨_, rfl, regs.bl_refl _, rfl, hJ.out⟩
  · refine regs.StepOK.plain rfl fun L a w1 hh => ?_
    have h28 : a.tmps[28]?.getD undef = .bool true := by rw [← Array.getD_eq_getD_getElem?]; exact hh.dep 11 28 (by kernel_rfl) (by kernel_rfl)
    have hJ := Lib.hid hh.st
    clear hh
    go_simp
    exact ⟨_, rfl, regs.bl_refl _, rfl, hJ.out⟩
  intro L w3 val hL hJ hR hv
  have h28 : val 28 = .bool true := hv 11 28 (by kernel_rfl)
  have h5 : val 5 = .bool true := hv 12 5 (by kernel_rfl)
  have HJ3 := Lib.hid hJ
  have HR3 := Lib.hid hR
  clear hv hL hJ hR
  simp only [regs.putAll, List.map_cons, List.map_nil]
  rw [h28, h5]
  generalize val 17 = v17
  generalize val 18 = v18
  generalize val 19 = v19
  generalize val 20 = v20
  generalize val 21 = v21
  generalize val 22 = v22
  generalize val 23 = v23
  generalize val 24 = v24
  generalize val 25 = v25
  generalize val 26 = v26
  generalize val 27 = v27
  simp only [Act.put, List.setIfInBounds_toArray, List.set_cons_zero, List.set_cons_succ]
  clear h28 h5
  have B3 : Hid (Below w.heap.size w w3) := B2.out.trans (HR3.out.mono B2.out.size)
  clear HR3
  obtain ⟨⟨c0, c1, c2, c3⟩, -, i0⟩ := HJ3.out.1.c4
  go_wp2_with (fail)
  refine (HO.out _).mono ?_
  rintro e w4 ⟨rfl, hb⟩
  go_upto_region 5 with fail
  have K4 : Hid (JBs [(w4.heap.size, [.int .i64 0, .int .i64 0, .int .i64 0, .int .i64 0]), (w.heap.size, [.int .i64 ra, .int .i64 rb, .int .i64 rc, .int .i64 rd]), (w.heap.size + 1, [.int .i64 sa, .int .i64 sb, .int .i64 sc, .int .i64 sd])] (w4.alloc (.cells #[.int .i64 0, .int .i64 0, .int .i64 0, .int .i64 0] 23))) := ⟨blk_new w4 [.int .i64 0, .int .i64 0, .int .i64 0, .int .i64 0] _, (HJ3.out.below hb).alloc _⟩
  have B4 : Hid (Below w.heap.size w (w4.alloc (.cells #[.int .i64 0, .int .i64 0, .int .i64 0, .int .i64 0] 23))) := (B3.out.trans (hb.mono B3.out.size)).alloc (Nat.le_trans B3.out.size hb.size) _
  clear hb c0 c1 c2 c3 i0 HJ3 t1 t2
  generalize (w4.alloc (.cells #[.int .i64 0, .int .i64 0, .int .i64 0, .int .i64 0] 23)) = w5 at *
  generalize w4.heap.size = gn at *
  refine regs.wp_region_put (regs.bl) (fun _ wx => JBs [(gn, [.int .i64 0, .int .i64 0, .int .i64 0, .int .i64 0]), (w.heap.size, [.int .i64 ra, .int .i64 rb, .int .i64 rc, .int .i64 rd]), (w.heap.size + 1, [.int .i64 sa, .int .i64 sb, .int .i64 sc, .int .i64 sd])] wx) [38, 39, 40, 41, 42, 43, 44, 45, 46, 47, 48, 49, 50, 51, 52, 53, 54, 55, 56, 57, 58, 59, 60, 61, 62, 63, 64, 65, 66, 67, 68, 69, 70, 71, 72, 73, 74, 75, 76, 77, 78, 79, 80, 81, 82, 83, 84, 85] (by kernel_rfl) (by kernel_rfl) (fun _ => regs.bl_refl _) (regs.bl_trans) (fun i => (match i with
    | 0 => regs.Say.val _ (.agg #[.int .i64 ra, .int .i64 rb, .int .i64 rc, .int .i64 rd])
    | 1 => regs.Say.val _ (.bool true)
    | 2 => regs.Say.val _ (.bool true)
    | 3 => regs.Say.val _ (.bool false)
    | 4 => regs.Say.val _ (.bool false)
    | 5 => regs.Say.val _ (.bool true)
    | 6 => regs.Say.val _ (.bool true)
    | 7 => regs.Say.val _ (.agg #[.int .i64 0, .int .i64 0, .int .i64 0, .int .i64 0])
    | 8 => regs.Say.val _ (.agg #[.int .i64 0, .int .i64 0, .int .i64 0, .int .i64 0])
    | 9 => regs.Say.val _ (.bool false)
    | 10 => regs.Say.val _ (.bool false)
    | 11 => regs.Say.val _ (.agg #[.int .i64 ra, .int .i64 rb, .int .i64 rc, .int .i64 rd])
    | 12 => regs.Say.val _ (.int .i64 0)
    | 13 => regs.Say.val _ (.bool false)
    | 14 => regs.Say.val _ (.bool false)
    | 15 => regs.Say.val _ (.bool false)
    | 16 => regs.Say.val _ (.agg #[.int .i64 ra, .int .i64 rb, .int .i64 rc, .int .i64 rd])
    | 17 => regs.Say.val _ (.agg #[.int .i64 sa, .int .i64 sb, .int .i64 sc, .int .i64 sd])
    | 18 => regs.Say.val _ (.bool true)
    | 19 => regs.Say.val _ (.bool false)
    | 20 => regs.Say.val _ (.bool false)
    | 21 => regs.Say.val _ (.bool false)
    | 22 => regs.Say.val _ (.bool false)
    | 23 => regs.Say.val _ (.bool false)
    | 24 => regs.Say.val _ (.bool true)
    | 25 => regs.Say.val _ (.bool false)
    | 26 => regs.Say.val _ (.bool false)
    | 27 => regs.Say.val _ (undef)
    | 28 => regs.Say.val _ (undef)
    | 29 => regs.Say.val _ (undef)
    | 30 => regs.Say.val _ (undef)
    | 31 => regs.Say.val _ (undef)
    | 32 => regs.Say.val _ (undef)
    | 33 => regs.Say.val _ (undef)
    | 34 => regs.Say.val _ (undef)
    | 35 => regs.Say.val _ (undef)
    | 36 => regs.Say.val _ (undef)
    | 37 => regs.Say.val _ (undef)
    | 38 => regs.Say.val _ (undef)
    | 39 => regs.Say.val _ (undef)
    | 40 => regs.Say.val _ (undef)
    | 41 => regs.Say.val _ (undef)
    | 42 => regs.Say.val _ (undef)
    | 43 => regs.Say.val _ (undef)
    | 44 => regs.Say.val _ (undef)
    | 45 => regs.Say.val _ (undef)
    | 46 => regs.Say.val _ (.bool false)
    | 47 => regs.Say.val _ (.bool false)
    | _ => regs.Say.any _ : regs.Say (regs.bl)).p) (fun _ => regs.Say.mono _) (by kernel_rfl) ((Below.refl _ _).drew) (K4.out) ⟨?_, ?_, ?_, ?_, ?_, ?_, ?_, ?_, ?_, ?_, ?_, ?_, ?_, ?_, ?_, ?_, ?_, ?_, ?_, ?_, ?_, ?_, ?_, ?_, ?_, ?_, ?_, ?_, ?_, ?_, ?_, ?_, ?_, ?_, ?_, ?_, ?_, ?_, ?_, ?_, ?_, ?_, ?_, ?_, ?_, ?_, ?_, ?_, trivial⟩ ?_
  · refine regs.StepOK.plain rfl fun L a w1 hh => ?_
    have h2 : a.tmps[2]?.getD undef = .pointer (some ⟨w.heap.size, 0, none⟩) := by rw [← Array.getD_eq_getD_getElem?]; exact hh.old 2 rfl
    obtain ⟨⟨c0, c1, c2, c3⟩, -, -⟩ := (hh.st.2.1).c4
    have hJ := Lib.hid hh.st
    clear hh
    go_simp
    exact ⟨_, rfl, regs.bl_refl _, rfl, hJ.out⟩
  · refine regs.StepOK.plain rfl fun L a w1 hh => ?_
    have h38 : a.tmps[38]?.getD undef = .agg #[.int .i64 ra, .int .i64 rb, .int .i64 rc, .int .i64 rd] := by rw [← Array.getD_eq_getD_getElem?]; exact hh.dep 0 38 (by kernel_rfl) (by kernel_rfl)
    have := True.intro
    have hJ := Lib.hid hh.st
    clear hh
    go_simp
    refine (bx_empty (⟨ra, rb, rc, rd⟩ : Bx) w1).mono ?_
    rintro e w9 ⟨rfl, hb9⟩
    exact ⟨_, rfl, hb9, congrArg Value.bool HE.out, JBs.below hJ.out hb9⟩
  · refine regs.StepOK.plain rfl fun L a w1 hh => ?_
    have h5 : a.tmps[5]?.getD undef = .bool true := by rw [← Array.getD_eq_getD_getElem?]; exact hh.old 5 rfl
    have hJ := Lib.hid hh.st
    clear hh
    go_simp
    exact ⟨_, rfl, regs.bl_refl _, rfl, hJ.out⟩
  · refine regs.StepOK.plain rfl fun L a w1 hh => ?_
    have h39 : a.tmps[39]?.getD undef = .bool true := by rw [← Array.getD_eq_getD_getElem?]; exact hh.dep 1 39 (by kernel_rfl) (by kernel_rfl)
    have h40 : a.tmps[40]?.getD undef = .bool true := by rw [← Array.getD_eq_getD_getElem?]; exact hh.dep 2 40 (by kernel_rfl) (by kernel_rfl)
    have hJ := Lib.hid hh.st
    clear hh
    go_simp
    exact ⟨_, rfl, regs.bl_refl _, rfl, hJ.out⟩
  · refine regs.StepOK.plain rfl fun L a w1 hh => ?_
    have h41 : a.tmps[41]?.getD undef = .bool false := by rw [← Array.getD_eq_getD_getElem?]; exact hh.dep 3 41 (by kernel_rfl) (by kernel_rfl)
    have hJ := Lib.hid hh.st
    clear hh
    go_simp
    exact ⟨_, rfl, regs.bl_refl _, rfl, hJ.out⟩
  · refine regs.StepOK.yes 4 false 42 rfl rfl (fun L a w1 hh => hh.dep 4 42 (by kernel_rfl) (by kernel_rfl)) fun L a w1 hh => ?_
    have h5 : a.tmps[5]?.getD undef = .bool true := by rw [← Array.getD_eq_getD_getElem?]; exact hh.old 5 rfl
    have hJ := Lib.hid hh.st
    clear hh
    go_simp
    exact ⟨_, rfl, regs.bl_refl _, rfl, hJ.out⟩
  · refine regs.StepOK.yes 4 false 42 rfl rfl (fun L a w1 hh => hh.dep 4 42 (by kernel_rfl) (by kernel_rfl)) fun L a w1 hh => ?_
    have h43 : a.tmps[43]?.getD undef = .bool true := by rw [← Array.getD_eq_getD_getElem?]; exact hh.dep 5 43 (by kernel_rfl) (by kernel_rfl)
    have hJ := Lib.hid hh.st
    clear hh
    go_simp
    exact ⟨_, rfl, regs.bl_refl _, rfl, hJ.out⟩
  · refine regs.StepOK.yes 6 true 44 rfl rfl (fun L a w1 hh => hh.dep 6 44 (by kernel_rfl) (by kernel_rfl)) fun L a w1 hh => ?_
    have h6 : a.tmps[6]?.getD undef = .pointer (some ⟨gn, 0, none⟩) := by rw [← Array.getD_eq_getD_getElem?]; exact hh.old 6 rfl
    obtain ⟨⟨c0, c1, c2, c3⟩, -, -⟩ := (hh.st.1).c4
    have hJ := Lib.hid hh.st
    clear hh
    go_simp
    exact ⟨_, rfl, regs.bl_refl _, rfl, hJ.out⟩
  · refine regs.StepOK.yes 6 true 44 rfl rfl (fun L a w1 hh => hh.dep 6 44 (by kernel_rfl) (by kernel_rfl)) fun L a w1 hh => ?_
    have hJ := Lib.hid hh.st
    clear hh
    go_simp
    exact ⟨_, rfl, regs.bl_refl _, rfl, hJ.out⟩
  · refine regs.StepOK.yes 6 true 44 rfl rfl (fun L a w1 hh => hh.dep 6 44 (by kernel_rfl) (by kernel_rfl)) fun L a w1 hh => ?_
    have h45 : a.tmps[45]?.getD undef = .agg #[.int .i64 0, .int .i64 0, .int .i64 0, .int .i64 0] := by rw [← Array.getD_eq_getD_getElem?]; exact hh.dep 7 45 (by kernel_rfl) (by kernel_rfl)
    have h46 : a.tmps[46]?.getD undef = .agg #[.int .i64 0, .int .i64 0, .int .i64 0, .int .i64 0] := by rw [← Array.getD_eq_getD_getElem?]; exact hh.dep 8 46 (by kernel_rfl) (by kernel_rfl)
    have eqst := fun w => bx_neq (⟨0, 0, 0, 0⟩ : Bx) (⟨0, 0, 0, 0⟩ : Bx) w
    rw [show (!decide ((⟨0, 0, 0, 0⟩ : Bx) = (⟨0, 0, 0, 0⟩ : Bx))) = false from by decide] at eqst
    unfold Bx.v at eqst
    simp only at eqst
    have hJ := Lib.hid hh.st
    clear hh
    go_simp
    exact ⟨_, rfl, regs.bl_refl _, rfl, hJ.out⟩
  · refine regs.StepOK.yes 6 true 44 rfl rfl (fun L a w1 hh => hh.dep 6 44 (by kernel_rfl) (by kernel_rfl)) fun L a w1 hh => ?_
    have h47 : a.tmps[47]?.getD undef = .bool false := by rw [← Array.getD_eq_getD_getElem?]; exact hh.dep 9 47 (by kernel_rfl) (by kernel_rfl)
    have hJ := Lib.hid hh.st
    clear hh
    go_simp
    exact ⟨_, rfl, regs.bl_refl _, rfl, hJ.out⟩
  · refine regs.StepOK.yes 10 false 48 rfl rfl (fun L a w1 hh => hh.dep 10 48 (by kernel_rfl) (by kernel_rfl)) fun L a w1 hh => ?_
    have h2 : a.tmps[2]?.getD undef = .pointer (some ⟨w.heap.size, 0, none⟩) := by rw [← Array.getD_eq_getD_getElem?]; exact hh.old 2 rfl
    obtain ⟨⟨c0, c1, c2, c3⟩, -, -⟩ := (hh.st.2.1).c4
    have hJ := Lib.hid hh.st
    clear hh
    go_simp
    exact ⟨_, rfl, regs.bl_refl _, rfl, hJ.out⟩
  · refine regs.StepOK.yes 10 false 48 rfl rfl (fun L a w1 hh => hh.dep 10 48 (by kernel_rfl) (by kernel_rfl)) fun L a w1 hh => ?_
    have h49 : a.tmps[49]?.getD undef = .agg #[.int .i64 ra, .int .i64 rb, .int .i64 rc, .int .i64 rd] := by rw [← Array.getD_eq_getD_getElem?]; exact hh.dep 11 49 (by kernel_rfl) (by kernel_rfl)
    have := True.intro
    have hJ := Lib.hid hh.st
    clear hh
    go_simp
    refine (bx_area (⟨ra, rb, rc, rd⟩ : Bx) w1 HRT.out).mono ?_
    rintro e w9 ⟨rfl, hb9⟩
    exact ⟨_, rfl, hb9, congrArg (Value.int .i64) (area_emp HE.out), JBs.below hJ.out hb9⟩
  · refine regs.StepOK.yes 10 false 48 rfl rfl (fun L a w1 hh => hh.dep 10 48 (by kernel_rfl) (by kernel_rfl)) fun L a w1 hh => ?_
    have h50 : a.tmps[50]?.getD undef = .int .i64 0 := by rw [← Array.getD_eq_getD_getElem?]; exact hh.dep 12 50 (by kernel_rfl) (by kernel_rfl)
    have hJ := Lib.hid hh.st
    clear hh
    go_simp
    exact ⟨_, rfl, regs.bl_refl _, rfl, hJ.out⟩
  · refine regs.StepOK.yes 6 true 44 rfl rfl (fun L a w1 hh => hh.dep 6 44 (by kernel_rfl) (by kernel_rfl)) fun L a w1 hh => ?_
    have h48 : a.tmps[48]?.getD undef = .bool false := by rw [← Array.getD_eq_getD_getElem?]; exact hh.dep 10 48 (by kernel_rfl) (by kernel_rfl)
    have h51 : a.tmps[51]?.getD undef = .bool false := by rw [← Array.getD_eq_getD_getElem?]; exact hh.dep 13 51 (by kernel_rfl) (by kernel_rfl)
    have hJ := Lib.hid hh.st
    clear hh
    go_simp
    exact ⟨_, rfl, regs.bl_refl _, rfl, hJ.out⟩
  · refine regs.StepOK.yes 6 true 44 rfl rfl (fun L a w1 hh => hh.dep 6 44 (by kernel_rfl) (by kernel_rfl)) fun L a w1 hh => ?_
    have h52 : a.tmps[52]?.getD undef = .bool false := by rw [← Array.getD_eq_getD_getElem?]; exact hh.dep 14 52 (by kernel_rfl) (by kernel_rfl)
    have hJ := Lib.hid hh.st
    clear hh
    go_simp
    exact ⟨_, rfl, regs.bl_refl _, rfl, hJ.out⟩
  · refine regs.StepOK.yes 15 false 53 rfl rfl (fun L a w1 hh => hh.dep 15 53 (by kernel_rfl) (by kernel_rfl)) fun L a w1 hh => ?_
    have h2 : a.tmps[2]?.getD undef = .pointer (some ⟨w.heap.size, 0, none⟩) := by rw [← Array.getD_eq_getD_getElem?]; exact hh.old 2 rfl
    obtain ⟨⟨c0, c1, c2, c3⟩, -, -⟩ := (hh.st.2.1).c4
    have hJ := Lib.hid hh.st
    clear hh
    go_simp
    exact ⟨_, rfl, regs.bl_refl _, rfl, hJ.out⟩
  · refine regs.StepOK.yes 15 false 53 rfl rfl (fun L a w1 hh => hh.dep 15 53 (by kernel_rfl) (by kernel_rfl)) fun L a w1 hh => ?_
    have h3 : a.tmps[3]?.getD undef = .pointer (some ⟨(w.heap.size + 1), 0, none⟩) := by rw [← Array.getD_eq_getD_getElem?]; exact hh.old 3 rfl
    obtain ⟨⟨c0, c1, c2, c3⟩, -, -⟩ := (hh.st.2.2.1).c4
    have hJ := Lib.hid hh.st
    clear hh
    go_simp
    exact ⟨_, rfl, regs.bl_refl _, rfl, hJ.out⟩
  · refine regs.StepOK.yes 15 false 53 rfl rfl (fun L a w1 hh => hh.dep 15 53 (by kernel_rfl) (by kernel_rfl)) fun L a w1 hh => ?_
    have h54 : a.tmps[54]?.getD undef = .agg #[.int .i64 ra, .int .i64 rb, .int .i64 rc, .int .i64 rd] := by rw [← Array.getD_eq_getD_getElem?]; exact hh.dep 16 54 (by kernel_rfl) (by kernel_rfl)
    have h55 : a.tmps[55]?.getD undef = .agg #[.int .i64 sa, .int .i64 sb, .int .i64 sc, .int .i64 sd] := by rw [← Array.getD_eq_getD_getElem?]; exact hh.dep 17 55 (by kernel_rfl) (by kernel_rfl)
    have := True.intro
    have hJ := Lib.hid hh.st
    clear hh
    go_simp
    refine (bx_within (⟨ra, rb, rc, rd⟩ : Bx) (⟨sa, sb, sc, sd⟩ : Bx) w1).mono ?_
    rintro e w9 ⟨rfl, hb9⟩
    exact ⟨_, rfl, hb9, congrArg Value.bool (within_emp HE.out), JBs.below hJ.out hb9⟩
  · refine regs.StepOK.yes 15 false 53 rfl rfl (fun L a w1 hh => hh.dep 15 53 (by kernel_rfl) (by kernel_rfl)) fun L a w1 hh => ?_
    have h56 : a.tmps[56]?.getD undef = .bool true := by rw [← Array.getD_eq_getD_getElem?]; exact hh.dep 18 56 (by kernel_rfl) (by kernel_rfl)
    have hJ := Lib.hid hh.st
    clear hh
    go_simp
    exact ⟨_, rfl, regs.bl_refl _, rfl, hJ.out⟩
  · refine regs.StepOK.yes 6 true 44 rfl rfl (fun L a w1 hh => hh.dep 6 44 (by kernel_rfl) (by kernel_rfl)) fun L a w1 hh => ?_
    have h53 : a.tmps[53]?.getD undef = .bool false := by rw [← Array.getD_eq_getD_getElem?]; exact hh.dep 15 53 (by kernel_rfl) (by kernel_rfl)
    have h57 : a.tmps[57]?.getD undef = .bool false := by rw [← Array.getD_eq_getD_getElem?]; exact hh.dep 19 57 (by kernel_rfl) (by kernel_rfl)
    have hJ := Lib.hid hh.st
    clear hh
    go_simp
    exact ⟨_, rfl, regs.bl_refl _, rfl, hJ.out⟩
  · refine regs.StepOK.yes 4 false 42 rfl rfl (fun L a w1 hh => hh.dep 4 42 (by kernel_rfl) (by kernel_rfl)) fun L a w1 hh => ?_
    have h44 : a.tmps[44]?.getD undef = .bool true := by rw [← Array.getD_eq_getD_getElem?]; exact hh.dep 6 44 (by kernel_rfl) (by kernel_rfl)
    have h58 : a.tmps[58]?.getD undef = .bool false := by rw [← Array.getD_eq_getD_getElem?]; exact hh.dep 20 58 (by kernel_rfl) (by kernel_rfl)
    have hJ := Lib.hid hh.st
    clear hh
    go_simp
    exact ⟨_, rfl, regs.bl_refl _, rfl, hJ.out⟩
  · refine regs.StepOK.plain rfl fun L a w1 hh => ?_
    have h42 : a.tmps[42]?.getD undef = .bool false := by rw [← Array.getD_eq_getD_getElem?]; exact hh.dep 4 42 (by kernel_rfl) (by kernel_rfl)
    have h59 : a.tmps[59]?.getD undef = .bool false := by rw [← Array.getD_eq_getD_getElem?]; exact hh.dep 21 59 (by kernel_rfl) (by kernel_rfl)
    have hJ := Lib.hid hh.st
    clear hh
    go_simp
    exact ⟨_, rfl, regs.bl_refl _, rfl, hJ.out⟩
  · refine regs.StepOK.plain rfl fun L a w1 hh => ?_
    have h60 : a.tmps[60]?.getD undef = .bool false := by rw [← Array.getD_eq_getD_getElem?]; exact hh.dep 22 60 (by kernel_rfl) (by kernel_rfl)
    have hJ := Lib.hid hh.st
    clear hh
    go_simp
    exact ⟨_, rfl, regs.bl_refl _, rfl, hJ.out⟩
  · refine regs.StepOK.yes 23 false 61 rfl rfl (fun L a w1 hh => hh.dep 23 61 (by kernel_rfl) (by kernel_rfl)) fun L a w1 hh => ?_
    have h5 : a.tmps[5]?.getD undef = .bool true := by rw [← Array.getD_eq_getD_getElem?]; exact hh.old 5 rfl
    have hJ := Lib.hid hh.st
    clear hh
    go_simp
    exact ⟨_, rfl, regs.bl_refl _, rfl, hJ.out⟩
  · refine regs.StepOK.yes 23 false 61 rfl rfl (fun L a w1 hh => hh.dep 23 61 (by kernel_rfl) (by kernel_rfl)) fun L a w1 hh => ?_
    have h62 : a.tmps[62]?.getD undef = .bool true := by rw [← Array.getD_eq_getD_getElem?]; exact hh.dep 24 62 (by kernel_rfl) (by kernel_rfl)
    have hJ := Lib.hid hh.st
    clear hh
    go_simp
    exact ⟨_, rfl, regs.bl_refl _, rfl, hJ.out⟩
  · refine regs.StepOK.yes 23 false 61 rfl rfl (fun L a w1 hh => hh.dep 23 61 (by kernel_rfl) (by kernel_rfl)) fun L a w1 hh => ?_
    have h63 : a.tmps[63]?.getD undef = .bool false := by rw [← Array.getD_eq_getD_getElem?]; exact hh.dep 25 63 (by kernel_rfl) (by kernel_rfl)
    have hJ := Lib.hid hh.st
    clear hh
    go_simp
    exact ⟨_, rfl, regs.bl_refl _, rfl, hJ.out⟩
  · refine regs.StepOK.no 26 true 64 rfl rfl (fun L a w1 hh => ?_) fun L a w1 hh => ⟨rfl, hh.st⟩
    exact hh.dep 26 64 (by kernel_rfl) (by kernel_rfl)
  · refine regs.StepOK.no 26 true 64 rfl rfl (fun L a w1 hh => ?_) fun L a w1 hh => ⟨rfl, hh.st⟩
    exact hh.dep 26 64 (by kernel_rfl) (by kernel_rfl)
  · refine regs.StepOK.no 26 true 64 rfl rfl (fun L a w1 hh => ?_) fun L a w1 hh => ⟨rfl, hh.st⟩
    exact hh.dep 26 64 (by kernel_rfl) (by kernel_rfl)
  · refine regs.StepOK.no 26 true 64 rfl rfl (fun L a w1 hh => ?_) fun L a w1 hh => ⟨rfl, hh.st⟩
    exact hh.dep 26 64 (by kernel_rfl) (by kernel_rfl)
  · refine regs.StepOK.out_ 30 false 68 rfl rfl (fun L a w1 hh => ?_) fun L a w1 hh => ⟨rfl, hh.st⟩
    exact hh.dep 30 68 (by kernel_rfl) (by kernel_rfl)
  · refine regs.StepOK.out_ 30 false 68 rfl rfl (fun L a w1 hh => ?_) fun L a w1 hh => ⟨rfl, hh.st⟩
    exact hh.dep 30 68 (by kernel_rfl) (by kernel_rfl)
  · refine regs.StepOK.out_ 30 false 68 rfl rfl (fun L a w1 hh => ?_) fun L a w1 hh => ⟨rfl, hh.st⟩
    exact hh.dep 30 68 (by kernel_rfl) (by kernel_rfl)
  · refine regs.StepOK.out_ 30 false 68 rfl rfl (fun L a w1 hh => ?_) fun L a w1 hh => ⟨rfl, hh.st⟩
    exact hh.dep 30 68 (by kernel_rfl) (by kernel_rfl)
  · refine regs.StepOK.out_ 30 false 68 rfl rfl (fun L a w1 hh => ?_) fun L a w1 hh => ⟨rfl, hh.st⟩
    exact hh.dep 30 68 (by kernel_rfl) (by kernel_rfl)
  · refine regs.StepOK.out_ 30 false 68 rfl rfl (fun L a w1 hh => ?_) fun L a w1 hh => ⟨rfl, hh.st⟩
    exact hh.dep 30 68 (by kernel_rfl) (by kernel_rfl)
  · refine regs.StepOK.out_ 30 false 68 rfl rfl (fun L a w1 hh => ?_) fun L a w1 hh => ⟨rfl, hh.st⟩
    exact hh.dep 30 68 (by kernel_rfl) (by kernel_rfl)
  · refine regs.StepOK.out_ 30 false 68 rfl rfl (fun L a w1 hh => ?_) fun L a w1 hh => ⟨rfl, hh.st⟩
    exact hh.dep 30 68 (by kernel_rfl) (by kernel_rfl)
  · refine regs.StepOK.out_ 30 false 68 rfl rfl (fun L a w1 hh => ?_) fun L a w1 hh => ⟨rfl, hh.st⟩
    exact hh.dep 30 68 (by kernel_rfl) (by kernel_rfl)
  · refine regs.StepOK.out_ 30 false 68 rfl rfl (fun L a w1 hh => ?_) fun L a w1 hh => ⟨rfl, hh.st⟩
    exact hh.dep 30 68 (by kernel_rfl) (by kernel_rfl)
  · refine regs.StepOK.out_ 30 false 68 rfl rfl (fun L a w1 hh => ?_) fun L a w1 hh => ⟨rfl, hh.st⟩
    exact hh.dep 30 68 (by kernel_rfl) (by kernel_rfl)
  · refine regs.StepOK.out_ 30 false 68 rfl rfl (fun L a w1 hh => ?_) fun L a w1 hh => ⟨rfl, hh.st⟩
    exact hh.dep 30 68 (by kernel_rfl) (by kernel_rfl)
  · refine regs.StepOK.out_ 30 false 68 rfl rfl (fun L a w1 hh => ?_) fun L a w1 hh => ⟨rfl, hh.st⟩
    exact hh.dep 30 68 (by kernel_rfl) (by kernel_rfl)
  · refine regs.StepOK.out_ 30 false 68 rfl rfl (fun L a w1 hh => ?_) fun L a w1 hh => ⟨rfl, hh.st⟩
    exact hh.dep 30 68 (by kernel_rfl) (by kernel_rfl)
  · refine regs.StepOK.no 26 true 64 rfl rfl (fun L a w1 hh => ?_) fun L a w1 hh => ⟨rfl, hh.st⟩
    exact hh.dep 26 64 (by kernel_rfl) (by kernel_rfl)
  · refine regs.StepOK.yes 23 false 61 rfl rfl (fun L a w1 hh => hh.dep 23 61 (by kernel_rfl) (by kernel_rfl)) fun L a w1 hh => ?_
    have h64 : a.tmps[64]?.getD undef = .bool false := by rw [← Array.getD_eq_getD_getElem?]; exact hh.dep 26 64 (by kernel_rfl) (by kernel_rfl)
    have hJ := Lib.hid hh.st
    clear hh
    go_simp
    exact ⟨_, rfl, regs.bl_refl _, rfl, hJ.out⟩
  · refine regs.StepOK.plain rfl fun L a w1 hh => ?_
    have h61 : a.tmps[61]?.getD undef = .bool false := by rw [← Array.getD_eq_getD_getElem?]; exact hh.dep 23 61 (by kernel_rfl) (by kernel_rfl)
    have h84 : a.tmps[84]?.getD undef = .bool false := by rw [← Array.getD_eq_getD_getElem?]; exact hh.dep 46 84 (by kernel_rfl) (by kernel_rfl)
    have hJ := Lib.hid hh.st
    clear hh
    go_simp
    exact ⟨_, rfl, regs.bl_refl _, rfl, hJ.out⟩
  intro L w6 val hL hJ hR hv
  have h85 : val 85 = .bool false := hv 47 85 (by kernel_rfl)
  have HJ6 := Lib.hid hJ
  have HR6 := Lib.hid hR
  clear hv hL hJ hR
  simp only [regs.putAll, List.map_cons, List.map_nil]
  rw [h85]
  generalize val 38 = v38
  generalize val 39 = v39
  generalize val 40 = v40
  generalize val 41 = v41
  generalize val 42 = v42
  generalize val 43 = v43
  generalize val 44 = v44
  generalize val 45 = v45
  generalize val 46 = v46
  generalize val 47 = v47
  generalize val 48 = v48
  generalize val 49 = v49
  generalize val 50 = v50
  generalize val 51 = v51
  generalize val 52 = v52
  generalize val 53 = v53
  generalize val 54 = v54
  generalize val 55 = v55
  generalize val 56 = v56
  generalize val 57 = v57
  generalize val 58 = v58
  generalize val 59 = v59
  generalize val 60 = v60
  generalize val 61 = v61
  generalize val 62 = v62
  generalize val 63 = v63
  generalize val 64 = v64
  generalize val 65 = v65
  generalize val 66 = v66
  generalize val 67 = v67
  generalize val 68 = v68
  generalize val 69 = v69
  generalize val 70 = v70
  generalize val 71 = v71
  generalize val 72 = v72
  generalize val 73 = v73
  generalize val 74 = v74
  generalize val 75 = v75
  generalize val 76 = v76
  generalize val 77 = v77
  generalize val 78 = v78
  generalize val 79 = v79
  generalize val 80 = v80
  generalize val 81 = v81
  generalize val 82 = v82
  generalize val 83 = v83
  generalize val 84 = v84
  simp only [Act.put, List.setIfInBounds_toArray, List.set_cons_zero, List.set_cons_succ]
  clear h85
  have B6 : Hid (Below w.heap.size w w6) := B4.out.trans (HR6.out.mono B4.out.size)
  clear HR6
  obtain ⟨⟨c0, c1, c2, c3⟩, -, i0⟩ := HJ6.out.2.1.c4
  obtain ⟨⟨d0, d1, d2, d3⟩, -, i1⟩ := HJ6.out.2.2.1.c4
  rw [HE.out, Bool.true_or] at HWS
  rw [HWS.out] at HW
  go_wp2_with (fail)
  refine (HW.out _).mono ?_
  rintro e w7 ⟨rfl, hb⟩
  have B7 : Hid (Below w.heap.size w w7) := B6.out.trans (hb.mono B6.out.size)
  clear hb c0 c1 c2 c3 d0 d1 d2 d3
  go_wp2_with (fail)
  refine (awake_any _).mono ?_
  rintro e w8 ⟨rfl, hb⟩
  have B8 : Hid (Below w.heap.size w w8) := B7.out.trans (hb.mono B7.out.size)
  clear hb
  go_wp2_with (fail)
  go_ret
  exact ⟨rfl, B8.out⟩
set_option maxRecDepth 100000 in
set_option maxHeartbeats 4000000 in
theorem rectForms_n (ra rb rc rd : Int) (s : Bx) (w : World) (hr : (⟨ra, rb, rc, rd⟩ : Bx).rt = true) (hs : s.rt = true) (t1 : decide (rc ≤ ra) = false) (t2 : decide (rd ≤ rb) = false) : Calls Try.prog 4 #[(⟨ra, rb, rc, rd⟩ : Bx).v, s.v] w fun e w' => e = .returned (.bool true) ∧ Below w.heap.size w w' := by
  have HE : Hid ((⟨ra, rb, rc, rd⟩ : Bx).emp = false) := by
    show (decide (rc ≤ ra) || decide (rd ≤ rb)) = _
    rw [t1, t2]; rfl
  have HRT := Lib.hid hr
  have HR := Lib.hid (fun w => right_any ⟨ra, rb, rc, rd⟩ w)
  have HS := Lib.hid (fun w => right_any s w)
  rw [hr] at HR
  rw [hs] at HS
  have HO := Lib.hid (fun w => bx_of ⟨ra, rb, rc, rd⟩ w)
  rw [nrm_ff HE.out] at HO
  have HW := Lib.hid (fun w => bx_within ⟨ra, rb, rc, rd⟩ s w)
  have HWS := Lib.hid (within_spec ⟨ra, rb, rc, rd⟩ s)
  obtain ⟨⟨a1, a2⟩, ⟨b1, b2⟩, ⟨c1, c2⟩, d1, d2⟩ := Bx.rt_of hr
  simp only at a1 a2 b1 b2 c1 c2 d1 d2
  have q1 : IntKind.i64.wrap (rc - ra) = rc - ra := IntWalk.i64_in _ (by omega)
  have q2 : IntKind.i64.wrap (rd - rb) = rd - rb := IntWalk.i64_in _ (by omega)
  have HA := Lib.hid (area_ne HE.out)
  have HM := Bx.sides hr
  rw [nrm_ff HE.out] at HM
  obtain ⟨⟨s1, s2⟩, s3, s4⟩ := HM
  simp only at s1 s2 s3 s4 HA
  obtain ⟨m1, m2⟩ := mul_bd s1 s2 s3 s4
  have q3 : IntKind.i64.wrap ((rc - ra) * (rd - rb)) = (rc - ra) * (rd - rb) := IntWalk.i64_in _ (by omega)
  obtain ⟨M, hM⟩ : ∃ M, (rc - ra) * (rd - rb) = M := ⟨_, rfl⟩
  rw [hM] at q3 HA
  clear s1 s2 s3 s4 m1 m2
  have Q3 := Lib.hid q3
  have HMM := Lib.hid hM
  clear q3 hM
  have Q1 := Lib.hid q1
  have Q2 := Lib.hid q2
  clear q1 q2 hr hs a1 a2 b1 b2 c1 c2 d1 d2
  obtain ⟨sa, sb, sc, sd⟩ := s
  unfold Bx.v at *
  simp only at HR HS HO HW HWS ⊢
  go_enter Try.func4, Try.ntmps4
  go_wp2_with (fail)
  refine (HR.out _).mono ?_
  rintro e w1 ⟨rfl, hb⟩
  have B1 : Hid (Below w.heap.size w w1) := (((Below.refl _ _).alloc (Nat.le_refl _) _).alloc (by simp) _).trans (hb.mono (by simp; try omega))
  have K1 : Hid (JBs [(w.heap.size, [.int .i64 ra, .int .i64 rb, .int .i64 rc, .int .i64 rd]), (w.heap.size + 1, [.int .i64 sa, .int .i64 sb, .int .i64 sc, .int .i64 sd])] w1) := ⟨((blk_new w [.int .i64 ra, .int .i64 rb, .int .i64 rc, .int .i64 rd] _).alloc _).below hb (by simp; omega), (blk_at (w.alloc _) _ (by simp) [.int .i64 sa, .int .i64 sb, .int .i64 sc, .int .i64 sd] _).below hb (by simp), trivial⟩
  clear hb
  obtain ⟨⟨c0, c1, c2, c3⟩, -, i0⟩ := K1.out.2.1.c4
  go_wp2_with (fail)
  refine (HS.out _).mono ?_
  rintro e w2 ⟨rfl, hb⟩
  have B2 : Hid (Below w.heap.size w w2) := B1.out.trans (hb.mono B1.out.size)
  have K2 := Lib.hid (K1.out.below hb)
  clear hb c0 c1 c2 c3 i0 K1
  go_upto_region 3 with fail
  refine regs.wp_region_seq (regs.bl) (fun _ wx => JBs [(w.heap.size, [.int .i64 ra, .int .i64 rb, .int .i64 rc, .int .i64 rd]), (w.heap.size + 1, [.int .i64 sa, .int .i64 sb, .int .i64 sc, .int .i64 sd])] wx) [17, 18, 19, 20, 21, 22, 23, 24, 25, 26, 27, 28, 5] (by kernel_rfl) (fun _ => regs.bl_refl _) (regs.bl_trans) (fun i => (match i with
    | 0 => regs.Say.val _ (.pointer (some ⟨w.heap.size, 0, none⟩))
    | 1 => regs.Say.val _ (.int .i64 ra)
    | 2 => regs.Say.val _ (.pointer (some ⟨w.heap.size, 2, none⟩))
    | 3 => regs.Say.val _ (.int .i64 rc)
    | 4 => regs.Say.val _ (.bool false)
    | 5 => regs.Say.val _ (.bool false)
    | 6 => regs.Say.val _ (.pointer (some ⟨w.heap.size, 1, none⟩))
    | 7 => regs.Say.val _ (.int .i64 rb)
    | 8 => regs.Say.val _ (.pointer (some ⟨w.heap.size, 3, none⟩))
    | 9 => regs.Say.val _ (.int .i64 rd)
    | 10 => regs.Say.val _ (.bool false)
    | 11 => regs.Say.val _ (.bool false)
    | 12 => regs.Say.val _ (.bool false)
    | _ => regs.Say.any _ : regs.Say (regs.bl)).p) (fun _ => regs.Say.mono _) (by kernel_rfl) (K2.out) ⟨?_, ?_, ?_, ?_, ?_, ?_, ?_, ?_, ?_, ?_, ?_, ?_, ?_, trivial⟩ ?_
  · refine regs.StepOK.plain rfl fun L a w1 hh => ?_
    have h2 : a.tmps[2]?.getD undef = .pointer (some ⟨w.heap.size, 0, none⟩) := by rw [← Array.getD_eq_getD_getElem?]; exact hh.old 2 rfl
    have hJ := Lib.hid hh.st
    clear hh
    go_simp
    exact ⟨_, rfl, regs.bl_refl _, rfl, hJ.out⟩
  · refine regs.StepOK.plain rfl fun L a w1 hh => ?_
    have h17 : a.tmps[17]?.getD undef = .pointer (some ⟨w.heap.size, 0, none⟩) := by rw [← Array.getD_eq_getD_getElem?]; exact hh.dep 0 17 (by kernel_rfl) (by kernel_rfl)
    obtain ⟨⟨c0, c1, c2, c3⟩, -, -⟩ := (hh.st.1).c4
    have hJ := Lib.hid hh.st
    clear hh
    go_simp
    exact ⟨_, rfl, regs.bl_refl _, rfl, hJ.out⟩
  · refine regs.StepOK.plain rfl fun L a w1 hh => ?_
    have h2 : a.tmps[2]?.getD undef = .pointer (some ⟨w.heap.size, 0, none⟩) := by rw [← Array.getD_eq_getD_getElem?]; exact hh.old 2 rfl
    have hJ := Lib.hid hh.st
    clear hh
    go_simp
    exact ⟨_, rfl, regs.bl_refl _, rfl, hJ.out⟩
  · refine regs.StepOK.plain rfl fun L a w1 hh => ?_
    have h19 : a.tmps[19]?.getD undef = .pointer (some ⟨w.heap.size, 2, none⟩) := by rw [← Array.getD_eq_getD_getElem?]; exact hh.dep 2 19 (by kernel_rfl) (by kernel_rfl)
    obtain ⟨⟨c0, c1, c2, c3⟩, -, -⟩ := (hh.st.1).c4
    have hJ := Lib.hid hh.st
    clear hh
    go_simp
    exact ⟨_, rfl, regs.bl_refl _, rfl, hJ.out⟩
  · refine regs.StepOK.plain rfl fun L a w1 hh => ?_
    have h18 : a.tmps[18]?.getD undef = .int .i64 ra := by rw [← Array.getD_eq_getD_getElem?]; exact hh.dep 1 18 (by kernel_rfl) (by kernel_rfl)
    have h20 : a.tmps[20]?.getD undef = .int .i64 rc := by rw [← Array.getD_eq_getD_getElem?]; exact hh.dep 3 20 (by kernel_rfl) (by kernel_rfl)
    have hJ := Lib.hid hh.st
    clear hh
    go_simp
    exact ⟨_, rfl, regs.bl_refl _, rfl, hJ.out⟩
  · refine regs.StepOK.plain rfl fun L a w1 hh => ?_
    have h21 : a.tmps[21]?.getD undef = .bool false := by rw [← Array.getD_eq_getD_getElem?]; exact hh.dep 4 21 (by kernel_rfl) (by kernel_rfl)
    have hJ := Lib.hid hh.st
    clear hh
    go_simp
    exact ⟨_, rfl, regs.bl_refl _, rfl, hJ.out⟩
  · refine regs.StepOK.yes 5 false 22 rfl rfl (fun L a w1 hh => hh.dep 5 22 (by kernel_rfl) (by kernel_rfl)) fun L a w1 hh => ?_
    have h2 : a.tmps[2]?.getD undef = .pointer (some ⟨w.heap.size, 0, none⟩) := by rw [← Array.getD_eq_getD_getElem?]; exact hh.old 2 rfl
    have hJ := Lib.hid hh.st
    clear hh
    go_simp
    exact ⟨_, rfl, regs.bl_refl _, rfl, hJ.out⟩
  · refine regs.StepOK.yes 5 false 22 rfl rfl (fun L a w1 hh => hh.dep 5 22 (by kernel_rfl) (by kernel_rfl)) fun L a w1 hh => ?_
    have h23 : a.tmps[23]?.getD undef = .pointer (some ⟨w.heap.size, 1, none⟩) := by rw [← Array.getD_eq_getD_getElem?]; exact hh.dep 6 23 (by kernel_rfl) (by kernel_rfl)
    obtain ⟨⟨c0, c1, c2, c3⟩, -, -⟩ := (hh.st.1).c4
    have hJ := Lib.hid hh.st
    clear hh
    go_simp
    exact ⟨_, rfl, regs.bl_refl _, rfl, hJ.out⟩
  · refine regs.StepOK.yes 5 false 22 rfl rfl (fun L a w1 hh => hh.dep 5 22 (by kernel_rfl) (by kernel_rfl)) fun L a w1 hh => ?_
    have h2 : a.tmps[2]?.getD undef = .pointer (some ⟨w.heap.size, 0, none⟩) := by rw [← Array.getD_eq_getD_getElem?]; exact hh.old 2 rfl
    have hJ := Lib.hid hh.st
    clear hh
    go_simp
    exact ⟨_, rfl, regs.bl_refl _, rfl, hJ.out⟩
  · refine regs.StepOK.yes 5 false 22 rfl rfl (fun L a w1 hh => hh.dep 5 22 (by kernel_rfl) (by kernel_rfl)) fun L a w1 hh => ?_
    have h25 : a.tmps[25]?.getD undef = .pointer (some ⟨w.heap.size, 3, none⟩) := by rw [← Array.getD_eq_getD_getElem?]; exact hh.dep 8 25 (by kernel_rfl) (by kernel_rfl)
    obtain ⟨⟨c0, c1, c2, c3⟩, -, -⟩ := (hh.st.1).c4
    have hJ := Lib.hid hh.st
    clear hh
    go_simp
    exact ⟨_, rfl, regs.bl_refl _, rfl, hJ.out⟩
  · refine regs.StepOK.yes 5 false 22 rfl rfl (fun L a w1 hh => hh.dep 5 22 (by kernel_rfl) (by kernel_rfl)) fun L a w1 hh => ?_
    have h24 : a.tmps[24]?.getD undef = .int .i64 rb := by rw [← Array.getD_eq_getD_getElem?]; exact hh.dep 7 24 (by kernel_rfl) (by kernel_rfl)
    have h26 : a.tmps[26]?.getD undef = .int .i64 rd := by rw [← Array.getD_eq_getD_getElem?]; exact hh.dep 9 26 (by kernel_rfl) (by kernel_rfl)
    have hJ := Lib.hid hh.st
    clear hh
    go_simp
    exact ⟨_, rfl, regs.bl_refl _, rfl, hJ.out⟩
  · refine regs.StepOK.plain rfl fun L a w1 hh => ?_
    have h22 : a.tmps[22]?.getD undef = .bool false := by rw [← Array.getD_eq_getD_getElem?]; exact hh.dep 5 22 (by kernel_rfl) (by kernel_rfl)
    have h27 : a.tmps[27]?.getD undef = .bool false := by rw [← Array.getD_eq_getD_getElem?]; exact hh.dep 10 27 (by kernel_rfl) (by kernel_rfl)
    have hJ := Lib.hid hh.st
    clear hh
    go_simp
    exact ⟨_, rfl, regs.bl_refl _, rfl, hJ.out⟩
  · refine regs.StepOK.plain rfl fun L a w1 hh => ?_
    have h28 : a.tmps[28]?.getD undef = .bool false := by rw [← Array.getD_eq_getD_getElem?]; exact hh.dep 11 28 (by kernel_rfl) (by kernel_rfl)
    have hJ := Lib.hid hh.st
    clear hh
    go_simp
    exact ⟨_, rfl, regs.bl_refl _, rfl, hJ.out⟩
  intro L w3 val hL hJ hR hv
  have h28 : val 28 = .bool false := hv 11 28 (by kernel_rfl)
  have h5 : val 5 = .bool false := hv 12 5 (by kernel_rfl)
  have HJ3 := Lib.hid hJ
  have HR3 := Lib.hid hR
  clear hv hL hJ hR
  simp only [regs.putAll, List.map_cons, List.map_nil]
  rw [h28, h5]
  generalize val 17 = v17
  generalize val 18 = v18
  generalize val 19 = v19
  generalize val 20 = v20
  generalize val 21 = v21
  generalize val 22 = v22
  generalize val 23 = v23
  generalize val 24 = v24
  generalize val 25 = v25
  generalize val 26 = v26
  generalize val 27 = v27
  simp only [Act.put, List.setIfInBounds_toArray, List.set_cons_zero, List.set_cons_succ]
  clear h28 h5
  have B3 : Hid (Below w.heap.size w w3) := B2.out.trans (HR3.out.mono B2.out.size)
  clear HR3
  obtain ⟨⟨c0, c1, c2, c3⟩, -, i0⟩ := HJ3.out.1.c4
  go_wp2_with (fail)
  refine (HO.out _).mono ?_
  rintro e w4 ⟨rfl, hb⟩
  go_upto_region 5 with fail
  have K4 : Hid (JBs [(w4.heap.size, [.int .i64 ra, .int .i64 rb, .int .i64 rc, .int .i64 rd]), (w.heap.size, [.int .i64 ra, .int .i64 rb, .int .i64 rc, .int .i64 rd]), (w.heap.size + 1, [.int .i64 sa, .int .i64 sb, .int .i64 sc, .int .i64 sd])] (w4.alloc (.cells #[.int .i64 ra, .int .i64 rb, .int .i64 rc, .int .i64 rd] 23))) := ⟨blk_new w4 [.int .i64 ra, .int .i64 rb, .int .i64 rc, .int .i64 rd] _, (HJ3.out.below hb).alloc _⟩
  have B4 : Hid (Below w.heap.size w (w4.alloc (.cells #[.int .i64 ra, .int .i64 rb, .int .i64 rc, .int .i64 rd] 23))) := (B3.out.trans (hb.mono B3.out.size)).alloc (Nat.le_trans B3.out.size hb.size) _
  clear hb c0 c1 c2 c3 i0 HJ3 t1 t2
  generalize (w4.alloc (.cells #[.int .i64 ra, .int .i64 rb, .int .i64 rc, .int .i64 rd] 23)) = w5 at *
  generalize w4.heap.size = gn at *
  refine regs.wp_region_put (regs.bl) (fun _ wx => JBs [(gn, [.int .i64 ra, .int .i64 rb, .int .i64 rc, .int .i64 rd]), (w.heap.size, [.int .i64 ra, .int .i64 rb, .int .i64 rc, .int .i64 rd]), (w.heap.size + 1, [.int .i64 sa, .int .i64 sb, .int .i64 sc, .int .i64 sd])] wx) [38, 39, 40, 41, 42, 43, 44, 45, 46, 47, 48, 49, 50, 51, 52, 53, 54, 55, 56, 57, 58, 59, 60, 61, 62, 63, 64, 65, 66, 67, 68, 69, 70, 71, 72, 73, 74, 75, 76, 77, 78, 79, 80, 81, 82, 83, 84, 85] (by kernel_rfl) (by kernel_rfl) (fun _ => regs.bl_refl _) (regs.bl_trans) (fun i => (match i with
    | 0 => regs.Say.val _ (.agg #[.int .i64 ra, .int .i64 rb, .int .i64 rc, .int .i64 rd])
    | 1 => regs.Say.val _ (.bool false)
    | 2 => regs.Say.val _ (.bool false)
    | 3 => regs.Say.val _ (.bool false)
    | 4 => regs.Say.val _ (.bool false)
    | 5 => regs.Say.val _ (.bool false)
    | 6 => regs.Say.val _ (.bool false)
    | 7 => regs.Say.val _ (undef)
    | 8 => regs.Say.val _ (undef)
    | 9 => regs.Say.val _ (undef)
    | 10 => regs.Say.val _ (undef)
    | 11 => regs.Say.val _ (undef)
    | 12 => regs.Say.val _ (undef)
    | 13 => regs.Say.val _ (undef)
    | 14 => regs.Say.val _ (undef)
    | 15 => regs.Say.val _ (undef)
    | 16 => regs.Say.val _ (undef)
    | 17 => regs.Say.val _ (undef)
    | 18 => regs.Say.val _ (undef)
    | 19 => regs.Say.val _ (undef)
    | 20 => regs.Say.val _ (undef)
    | 21 => regs.Say.val _ (.bool false)
    | 22 => regs.Say.val _ (.bool false)
    | 23 => regs.Say.val _ (.bool false)
    | 24 => regs.Say.val _ (.bool false)
    | 25 => regs.Say.val _ (.bool true)
    | 26 => regs.Say.val _ (.bool true)
    | 27 => regs.Say.val _ (.agg #[.int .i64 ra, .int .i64 rb, .int .i64 rc, .int .i64 rd])
    | 28 => regs.Say.val _ (.agg #[.int .i64 ra, .int .i64 rb, .int .i64 rc, .int .i64 rd])
    | 29 => regs.Say.val _ (.bool false)
    | 30 => regs.Say.val _ (.bool false)
    | 31 => regs.Say.val _ (.agg #[.int .i64 ra, .int .i64 rb, .int .i64 rc, .int .i64 rd])
    | 32 => regs.Say.val _ (.int .i64 M)
    | 33 => regs.Say.val _ (.pointer (some ⟨w.heap.size, 2, none⟩))
    | 34 => regs.Say.val _ (.int .i64 rc)
    | 35 => regs.Say.val _ (.pointer (some ⟨w.heap.size, 0, none⟩))
    | 36 => regs.Say.val _ (.int .i64 ra)
    | 37 => regs.Say.val _ (.int .i64 (rc - ra))
    | 38 => regs.Say.val _ (.pointer (some ⟨w.heap.size, 3, none⟩))
    | 39 => regs.Say.val _ (.int .i64 rd)
    | 40 => regs.Say.val _ (.pointer (some ⟨w.heap.size, 1, none⟩))
    | 41 => regs.Say.val _ (.int .i64 rb)
    | 42 => regs.Say.val _ (.int .i64 (rd - rb))
    | 43 => regs.Say.val _ (.int .i64 M)
    | 44 => regs.Say.val _ (.bool false)
    | 45 => regs.Say.val _ (.bool false)
    | 46 => regs.Say.val _ (.bool false)
    | 47 => regs.Say.val _ (.bool false)
    | _ => regs.Say.any _ : regs.Say (regs.bl)).p) (fun _ => regs.Say.mono _) (by kernel_rfl) ((Below.refl _ _).drew) (K4.out) ⟨?_, ?_, ?_, ?_, ?_, ?_, ?_, ?_, ?_, ?_, ?_, ?_, ?_, ?_, ?_, ?_, ?_, ?_, ?_, ?_, ?_, ?_, ?_, ?_, ?_, ?_, ?_, ?_, ?_, ?_, ?_, ?_, ?_, ?_, ?_, ?_, ?_, ?_, ?_, ?_, ?_, ?_, ?_, ?_, ?_, ?_, ?_, ?_, trivial⟩ ?_
  · refine regs.StepOK.plain rfl fun L a w1 hh => ?_
    have h2 : a.tmps[2]?.getD undef = .pointer (some ⟨w.heap.size, 0, none⟩) := by rw [← Array.getD_eq_getD_getElem?]; exact hh.old 2 rfl
    obtain ⟨⟨c0, c1, c2, c3⟩, -, -⟩ := (hh.st.2.1).c4
    have hJ := Lib.hid hh.st
    clear hh
    go_simp
    exact ⟨_, rfl, regs.bl_refl _, rfl, hJ.out⟩
  · refine regs.StepOK.plain rfl fun L a w1 hh => ?_
    have h38 : a.tmps[38]?.getD undef = .agg #[.int .i64 ra, .int .i64 rb, .int .i64 rc, .int .i64 rd] := by rw [← Array.getD_eq_getD_getElem?]; exact hh.dep 0 38 (by kernel_rfl) (by kernel_rfl)
    have := True.intro
    have hJ := Lib.hid hh.st
    clear hh
    go_simp
    refine (bx_empty (⟨ra, rb, rc, rd⟩ : Bx) w1).mono ?_
    rintro e w9 ⟨rfl, hb9⟩
    exact ⟨_, rfl, hb9, congrArg Value.bool HE.out, JBs.below hJ.out hb9⟩
  · refine regs.StepOK.plain rfl fun L a w1 hh => ?_
    have h5 : a.tmps[5]?.getD undef = .bool false := by rw [← Array.getD_eq_getD_getElem?]; exact hh.old 5 rfl
    have hJ := Lib.hid hh.st
    clear hh
    go_simp
    exact ⟨_, rfl, regs.bl_refl _, rfl, hJ.out⟩
  · refine regs.StepOK.plain rfl fun L a w1 hh => ?_
    have h39 : a.tmps[39]?.getD undef = .bool false := by rw [← Array.getD_eq_getD_getElem?]; exact hh.dep 1 39 (by kernel_rfl) (by kernel_rfl)
    have h40 : a.tmps[40]?.getD undef = .bool false := by rw [← Array.getD_eq_getD_getElem?]; exact hh.dep 2 40 (by kernel_rfl) (by kernel_rfl)
    have hJ := Lib.hid hh.st
    clear hh
    go_simp
    exact ⟨_, rfl, regs.bl_refl _, rfl, hJ.out⟩
  · refine regs.StepOK.plain rfl fun L a w1 hh => ?_
    have h41 : a.tmps[41]?.getD undef = .bool false := by rw [← Array.getD_eq_getD_getElem?]; exact hh.dep 3 41 (by kernel_rfl) (by kernel_rfl)
    have hJ := Lib.hid hh.st
    clear hh
    go_simp
    exact ⟨_, rfl, regs.bl_refl _, rfl, hJ.out⟩
  · refine regs.StepOK.yes 4 false 42 rfl rfl (fun L a w1 hh => hh.dep 4 42 (by kernel_rfl) (by kernel_rfl)) fun L a w1 hh => ?_
    have h5 : a.tmps[5]?.getD undef = .bool false := by rw [← Array.getD_eq_getD_getElem?]; exact hh.old 5 rfl
    have hJ := Lib.hid hh.st
    clear hh
    go_simp
    exact ⟨_, rfl, regs.bl_refl _, rfl, hJ.out⟩
  · refine regs.StepOK.yes 4 false 42 rfl rfl (fun L a w1 hh => hh.dep 4 42 (by kernel_rfl) (by kernel_rfl)) fun L a w1 hh => ?_
    have h43 : a.tmps[43]?.getD undef = .bool false := by rw [← Array.getD_eq_getD_getElem?]; exact hh.dep 5 43 (by kernel_rfl) (by kernel_rfl)
    have hJ := Lib.hid hh.st
    clear hh
    go_simp
    exact ⟨_, rfl, regs.bl_refl _, rfl, hJ.out⟩
  · refine regs.StepOK.no 6 true 44 rfl rfl (fun L a w1 hh => ?_) fun L a w1 hh => ⟨rfl, hh.st⟩
    exact hh.dep 6 44 (by kernel_rfl) (by kernel_rfl)
  · refine regs.StepOK.no 6 true 44 rfl rfl (fun L a w1 hh => ?_) fun L a w1 hh => ⟨rfl, hh.st⟩
    exact hh.dep 6 44 (by kernel_rfl) (by kernel_rfl)
  · refine regs.StepOK.no 6 true 44 rfl rfl (fun L a w1 hh => ?_) fun L a w1 hh => ⟨rfl, hh.st⟩
    exact hh.dep 6 44 (by kernel_rfl) (by kernel_rfl)
  · refine regs.StepOK.no 6 true 44 rfl rfl (fun L a w1 hh => ?_) fun L a w1 hh => ⟨rfl, hh.st⟩
    exact hh.dep 6 44 (by kernel_rfl) (by kernel_rfl)
  · refine regs.StepOK.out_ 10 false 48 rfl rfl (fun L a w1 hh => ?_) fun L a w1 hh => ⟨rfl, hh.st⟩
    exact hh.dep 10 48 (by kernel_rfl) (by kernel_rfl)
  · refine regs.StepOK.out_ 10 false 48 rfl rfl (fun L a w1 hh => ?_) fun L a w1 hh => ⟨rfl, hh.st⟩
    exact hh.dep 10 48 (by kernel_rfl) (by kernel_rfl)
  · refine regs.StepOK.out_ 10 false 48 rfl rfl (fun L a w1 hh => ?_) fun L a w1 hh => ⟨rfl, hh.st⟩
    exact hh.dep 10 48 (by kernel_rfl) (by kernel_rfl)
  · refine regs.StepOK.no 6 true 44 rfl rfl (fun L a w1 hh => ?_) fun L a w1 hh => ⟨rfl, hh.st⟩
    exact hh.dep 6 44 (by kernel_rfl) (by kernel_rfl)
  · refine regs.StepOK.no 6 true 44 rfl rfl (fun L a w1 hh => ?_) fun L a w1 hh => ⟨rfl, hh.st⟩
    exact hh.dep 6 44 (by kernel_rfl) (by kernel_rfl)
  · refine regs.StepOK.out_ 15 false 53 rfl rfl (fun L a w1 hh => ?_) fun L a w1 hh => ⟨rfl, hh.st⟩
    exact hh.dep 15 53 (by kernel_rfl) (by kernel_rfl)
  · refine regs.StepOK.out_ 15 false 53 rfl rfl (fun L a w1 hh => ?_) fun L a w1 hh => ⟨rfl, hh.st⟩
    exact hh.dep 15 53 (by kernel_rfl) (by kernel_rfl)
  · refine regs.StepOK.out_ 15 false 53 rfl rfl (fun L a w1 hh => ?_) fun L a w1 hh => ⟨rfl, hh.st⟩
    exact hh.dep 15 53 (by kernel_rfl) (by kernel_rfl)
  · refine regs.StepOK.out_ 15 false 53 rfl rfl (fun L a w1 hh => ?_) fun L a w1 hh => ⟨rfl, hh.st⟩
    exact hh.dep 15 53 (by kernel_rfl) (by kernel_rfl)
  · refine regs.StepOK.no 6 true 44 rfl rfl (fun L a w1 hh => ?_) fun L a w1 hh => ⟨rfl, hh.st⟩
    exact hh.dep 6 44 (by kernel_rfl) (by kernel_rfl)
  · refine regs.StepOK.yes 4 false 42 rfl rfl (fun L a w1 hh => hh.dep 4 42 (by kernel_rfl) (by kernel_rfl)) fun L a w1 hh => ?_
    have h44 : a.tmps[44]?.getD undef = .bool false := by rw [← Array.getD_eq_getD_getElem?]; exact hh.dep 6 44 (by kernel_rfl) (by kernel_rfl)
    have hJ := Lib.hid hh.st
    clear hh
    go_simp
    exact ⟨_, rfl, regs.bl_refl _, rfl, hJ.out⟩
  · refine regs.StepOK.plain rfl fun L a w1 hh => ?_
    have h42 : a.tmps[42]?.getD undef = .bool false := by rw [← Array.getD_eq_getD_getElem?]; exact hh.dep 4 42 (by kernel_rfl) (by kernel_rfl)
    have h59 : a.tmps[59]?.getD undef = .bool false := by rw [← Array.getD_eq_getD_getElem?]; exact hh.dep 21 59 (by kernel_rfl) (by kernel_rfl)
    have hJ := Lib.hid hh.st
    clear hh
    go_simp
    exact ⟨_, rfl, regs.bl_refl _, rfl, hJ.out⟩
  · refine regs.StepOK.plain rfl fun L a w1 hh => ?_
    have h60 : a.tmps[60]?.getD undef = .bool false := by rw [← Array.getD_eq_getD_getElem?]; exact hh.dep 22 60 (by kernel_rfl) (by kernel_rfl)
    have hJ := Lib.hid hh.st
    clear hh
    go_simp
    exact ⟨_, rfl, regs.bl_refl _, rfl, hJ.out⟩
  · refine regs.StepOK.yes 23 false 61 rfl rfl (fun L a w1 hh => hh.dep 23 61 (by kernel_rfl) (by kernel_rfl)) fun L a w1 hh => ?_
    have h5 : a.tmps[5]?.getD undef = .bool false := by rw [← Array.getD_eq_getD_getElem?]; exact hh.old 5 rfl
    have hJ := Lib.hid hh.st
    clear hh
    go_simp
    exact ⟨_, rfl, regs.bl_refl _, rfl, hJ.out⟩
  · refine regs.StepOK.yes 23 false 61 rfl rfl (fun L a w1 hh => hh.dep 23 61 (by kernel_rfl) (by kernel_rfl)) fun L a w1 hh => ?_
    have h62 : a.tmps[62]?.getD undef = .bool false := by rw [← Array.getD_eq_getD_getElem?]; exact hh.dep 24 62 (by kernel_rfl) (by kernel_rfl)
    have hJ := Lib.hid hh.st
    clear hh
    go_simp
    exact ⟨_, rfl, regs.bl_refl _, rfl, hJ.out⟩
  · refine regs.StepOK.yes 23 false 61 rfl rfl (fun L a w1 hh => hh.dep 23 61 (by kernel_rfl) (by kernel_rfl)) fun L a w1 hh => ?_
    have h63 : a.tmps[63]?.getD undef = .bool true := by rw [← Array.getD_eq_getD_getElem?]; exact hh.dep 25 63 (by kernel_rfl) (by kernel_rfl)
    have hJ := Lib.hid hh.st
    clear hh
    go_simp
    exact ⟨_, rfl, regs.bl_refl _, rfl, hJ.out⟩
  · refine regs.StepOK.yes 26 true 64 rfl rfl (fun L a w1 hh => hh.dep 26 64 (by kernel_rfl) (by kernel_rfl)) fun L a w1 hh => ?_
    have h6 : a.tmps[6]?.getD undef = .pointer (some ⟨gn, 0, none⟩) := by rw [← Array.getD_eq_getD_getElem?]; exact hh.old 6 rfl
    obtain ⟨⟨c0, c1, c2, c3⟩, -, -⟩ := (hh.st.1).c4
    have hJ := Lib.hid hh.st
    clear hh
    go_simp
    exact ⟨_, rfl, regs.bl_refl _, rfl, hJ.out⟩
  · refine regs.StepOK.yes 26 true 64 rfl rfl (fun L a w1 hh => hh.dep 26 64 (by kernel_rfl) (by kernel_rfl)) fun L a w1 hh => ?_
    have h2 : a.tmps[2]?.getD undef = .pointer (some ⟨w.heap.size, 0, none⟩) := by rw [← Array.getD_eq_getD_getElem?]; exact hh.old 2 rfl
    obtain ⟨⟨c0, c1, c2, c3⟩, -, -⟩ := (hh.st.2.1).c4
    have hJ := Lib.hid hh.st
    clear hh
    go_simp
    exact ⟨_, rfl, regs.bl_refl _, rfl, hJ.out⟩
  · refine regs.StepOK.yes 26 true 64 rfl rfl (fun L a w1 hh => hh.dep 26 64 (by kernel_rfl) (by kernel_rfl)) fun L a w1 hh => ?_
    have h65 : a.tmps[65]?.getD undef = .agg #[.int .i64 ra, .int .i64 rb, .int .i64 rc, .int .i64 rd] := by rw [← Array.getD_eq_getD_getElem?]; exact hh.dep 27 65 (by kernel_rfl) (by kernel_rfl)
    have h66 : a.tmps[66]?.getD undef = .agg #[.int .i64 ra, .int .i64 rb, .int .i64 rc, .int .i64 rd] := by rw [← Array.getD_eq_getD_getElem?]; exact hh.dep 28 66 (by kernel_rfl) (by kernel_rfl)
    have eqst := fun w => bx_neq (⟨ra, rb, rc, rd⟩ : Bx) (⟨ra, rb, rc, rd⟩ : Bx) w
    rw [show (!decide ((⟨ra, rb, rc, rd⟩ : Bx) = (⟨ra, rb, rc, rd⟩ : Bx))) = false from by simp] at eqst
    unfold Bx.v at eqst
    simp only at eqst
    have hJ := Lib.hid hh.st
    clear hh
    go_simp
    exact ⟨_, rfl, regs.bl_refl _, rfl, hJ.out⟩
  · refine regs.StepOK.yes 26 true 64 rfl rfl (fun L a w1 hh => hh.dep 26 64 (by kernel_rfl) (by kernel_rfl)) fun L a w1 hh => ?_
    have h67 : a.tmps[67]?.getD undef = .bool false := by rw [← Array.getD_eq_getD_getElem?]; exact hh.dep 29 67 (by kernel_rfl) (by kernel_rfl)
    have hJ := Lib.hid hh.st
    clear hh
    go_simp
    exact ⟨_, rfl, regs.bl_refl _, rfl, hJ.out⟩
  · refine regs.StepOK.yes 30 false 68 rfl rfl (fun L a w1 hh => hh.dep 30 68 (by kernel_rfl) (by kernel_rfl)) fun L a w1 hh => ?_
    have h2 : a.tmps[2]?.getD undef = .pointer (some ⟨w.heap.size, 0, none⟩) := by rw [← Array.getD_eq_getD_getElem?]; exact hh.old 2 rfl
    obtain ⟨⟨c0, c1, c2, c3⟩, -, -⟩ := (hh.st.2.1).c4
    have hJ := Lib.hid hh.st
    clear hh
    go_simp
    exact ⟨_, rfl, regs.bl_refl _, rfl, hJ.out⟩
  · refine regs.StepOK.yes 30 false 68 rfl rfl (fun L a w1 hh => hh.dep 30 68 (by kernel_rfl) (by kernel_rfl)) fun L a w1 hh => ?_
    have h69 : a.tmps[69]?.getD undef = .agg #[.int .i64 ra, .int .i64 rb, .int .i64 rc, .int .i64 rd] := by rw [← Array.getD_eq_getD_getElem?]; exact hh.dep 31 69 (by kernel_rfl) (by kernel_rfl)
    have := True.intro
    have hJ := Lib.hid hh.st
    clear hh
    go_simp
    refine (bx_area (⟨ra, rb, rc, rd⟩ : Bx) w1 HRT.out).mono ?_
    rintro e w9 ⟨rfl, hb9⟩
    exact ⟨_, rfl, hb9, congrArg (Value.int .i64) HA.out, JBs.below hJ.out hb9⟩
  · refine regs.StepOK.yes 30 false 68 rfl rfl (fun L a w1 hh => hh.dep 30 68 (by kernel_rfl) (by kernel_rfl)) fun L a w1 hh => ?_
    have h2 : a.tmps[2]?.getD undef = .pointer (some ⟨w.heap.size, 0, none⟩) := by rw [← Array.getD_eq_getD_getElem?]; exact hh.old 2 rfl
    have hJ := Lib.hid hh.st
    clear hh
    go_simp
    exact ⟨_, rfl, regs.bl_refl _, rfl, hJ.out⟩
  · refine regs.StepOK.yes 30 false 68 rfl rfl (fun L a w1 hh => hh.dep 30 68 (by kernel_rfl) (by kernel_rfl)) fun L a w1 hh => ?_
    have h71 : a.tmps[71]?.getD undef = .pointer (some ⟨w.heap.size, 2, none⟩) := by rw [← Array.getD_eq_getD_getElem?]; exact hh.dep 33 71 (by kernel_rfl) (by kernel_rfl)
    obtain ⟨⟨c0, c1, c2, c3⟩, -, -⟩ := (hh.st.2.1).c4
    have hJ := Lib.hid hh.st
    clear hh
    go_simp
    exact ⟨_, rfl, regs.bl_refl _, rfl, hJ.out⟩
  · refine regs.StepOK.yes 30 false 68 rfl rfl (fun L a w1 hh => hh.dep 30 68 (by kernel_rfl) (by kernel_rfl)) fun L a w1 hh => ?_
    have h2 : a.tmps[2]?.getD undef = .pointer (some ⟨w.heap.size, 0, none⟩) := by rw [← Array.getD_eq_getD_getElem?]; exact hh.old 2 rfl
    have hJ := Lib.hid hh.st
    clear hh
    go_simp
    exact ⟨_, rfl, regs.bl_refl _, rfl, hJ.out⟩
  · refine regs.StepOK.yes 30 false 68 rfl rfl (fun L a w1 hh => hh.dep 30 68 (by kernel_rfl) (by kernel_rfl)) fun L a w1 hh => ?_
    have h73 : a.tmps[73]?.getD undef = .pointer (some ⟨w.heap.size, 0, none⟩) := by rw [← Array.getD_eq_getD_getElem?]; exact hh.dep 35 73 (by kernel_rfl) (by kernel_rfl)
    obtain ⟨⟨c0, c1, c2, c3⟩, -, -⟩ := (hh.st.2.1).c4
    have hJ := Lib.hid hh.st
    clear hh
    go_simp
    exact ⟨_, rfl, regs.bl_refl _, rfl, hJ.out⟩
  · refine regs.StepOK.yes 30 false 68 rfl rfl (fun L a w1 hh => hh.dep 30 68 (by kernel_rfl) (by kernel_rfl)) fun L a w1 hh => ?_
    have h72 : a.tmps[72]?.getD undef = .int .i64 rc := by rw [← Array.getD_eq_getD_getElem?]; exact hh.dep 34 72 (by kernel_rfl) (by kernel_rfl)
    have h74 : a.tmps[74]?.getD undef = .int .i64 ra := by rw [← Array.getD_eq_getD_getElem?]; exact hh.dep 36 74 (by kernel_rfl) (by kernel_rfl)
    have q1 := Q1.out
    have hJ := Lib.hid hh.st
    clear hh
    go_simp
    exact ⟨_, rfl, regs.bl_refl _, rfl, hJ.out⟩
  · refine regs.StepOK.yes 30 false 68 rfl rfl (fun L a w1 hh => hh.dep 30 68 (by kernel_rfl) (by kernel_rfl)) fun L a w1 hh => ?_
    have h2 : a.tmps[2]?.getD undef = .pointer (some ⟨w.heap.size, 0, none⟩) := by rw [← Array.getD_eq_getD_getElem?]; exact hh.old 2 rfl
    have hJ := Lib.hid hh.st
    clear hh
    go_simp
    exact ⟨_, rfl, regs.bl_refl _, rfl, hJ.out⟩
  · refine regs.StepOK.yes 30 false 68 rfl rfl (fun L a w1 hh => hh.dep 30 68 (by kernel_rfl) (by kernel_rfl)) fun L a w1 hh => ?_
    have h76 : a.tmps[76]?.getD undef = .pointer (some ⟨w.heap.size, 3, none⟩) := by rw [← Array.getD_eq_getD_getElem?]; exact hh.dep 38 76 (by kernel_rfl) (by kernel_rfl)
    obtain ⟨⟨c0, c1, c2, c3⟩, -, -⟩ := (hh.st.2.1).c4
    have hJ := Lib.hid hh.st
    clear hh
    go_simp
    exact ⟨_, rfl, regs.bl_refl _, rfl, hJ.out⟩
  · refine regs.StepOK.yes 30 false 68 rfl rfl (fun L a w1 hh => hh.dep 30 68 (by kernel_rfl) (by kernel_rfl)) fun L a w1 hh => ?_
    have h2 : a.tmps[2]?.getD undef = .pointer (some ⟨w.heap.size, 0, none⟩) := by rw [← Array.getD_eq_getD_getElem?]; exact hh.old 2 rfl
    have hJ := Lib.hid hh.st
    clear hh
    go_simp
    exact ⟨_, rfl, regs.bl_refl _, rfl, hJ.out⟩
  · refine regs.StepOK.yes 30 false 68 rfl rfl (fun L a w1 hh => hh.dep 30 68 (by kernel_rfl) (by kernel_rfl)) fun L a w1 hh => ?_
    have h78 : a.tmps[78]?.getD undef = .pointer (some ⟨w.heap.size, 1, none⟩) := by rw [← Array.getD_eq_getD_getElem?]; exact hh.dep 40 78 (by kernel_rfl) (by kernel_rfl)
    obtain ⟨⟨c0, c1, c2, c3⟩, -, -⟩ := (hh.st.2.1).c4
    have hJ := Lib.hid hh.st
    clear hh
    go_simp
    exact ⟨_, rfl, regs.bl_refl _, rfl, hJ.out⟩
  · refine regs.StepOK.yes 30 false 68 rfl rfl (fun L a w1 hh => hh.dep 30 68 (by kernel_rfl) (by kernel_rfl)) fun L a w1 hh => ?_
    have h77 : a.tmps[77]?.getD undef = .int .i64 rd := by rw [← Array.getD_eq_getD_getElem?]; exact hh.dep 39 77 (by kernel_rfl) (by kernel_rfl)
    have h79 : a.tmps[79]?.getD undef = .int .i64 rb := by rw [← Array.getD_eq_getD_getElem?]; exact hh.dep 41 79 (by kernel_rfl) (by kernel_rfl)
    have q2 := Q2.out
    have hJ := Lib.hid hh.st
    clear hh
    go_simp
    exact ⟨_, rfl, regs.bl_refl _, rfl, hJ.out⟩
  · refine regs.StepOK.yes 30 false 68 rfl rfl (fun L a w1 hh => hh.dep 30 68 (by kernel_rfl) (by kernel_rfl)) fun L a w1 hh => ?_
    have h75 : a.tmps[75]?.getD undef = .int .i64 (rc - ra) := by rw [← Array.getD_eq_getD_getElem?]; exact hh.dep 37 75 (by kernel_rfl) (by kernel_rfl)
    have h80 : a.tmps[80]?.getD undef = .int .i64 (rd - rb) := by rw [← Array.getD_eq_getD_getElem?]; exact hh.dep 42 80 (by kernel_rfl) (by kernel_rfl)
    have q4 := HMM.out
    have q3 := Q3.out
    have hJ := Lib.hid hh.st
    clear hh
    go_simp
    exact ⟨_, rfl, regs.bl_refl _, rfl, hJ.out⟩
  · refine regs.StepOK.yes 30 false 68 rfl rfl (fun L a w1 hh => hh.dep 30 68 (by kernel_rfl) (by kernel_rfl)) fun L a w1 hh => ?_
    have h70 : a.tmps[70]?.getD undef = .int .i64 M := by rw [← Array.getD_eq_getD_getElem?]; exact hh.dep 32 70 (by kernel_rfl) (by kernel_rfl)
    have h81 : a.tmps[81]?.getD undef = .int .i64 M := by rw [← Array.getD_eq_getD_getElem?]; exact hh.dep 43 81 (by kernel_rfl) (by kernel_rfl)
    have hJ := Lib.hid hh.st
    clear hh
    go_simp
    exact ⟨_, rfl, regs.bl_refl _, rfl, hJ.out⟩
  · refine regs.StepOK.yes 26 true 64 rfl rfl (fun L a w1 hh => hh.dep 26 64 (by kernel_rfl) (by kernel_rfl)) fun L a w1 hh => ?_
    have h68 : a.tmps[68]?.getD undef = .bool false := by rw [← Array.getD_eq_getD_getElem?]; exact hh.dep 30 68 (by kernel_rfl) (by kernel_rfl)
    have h82 : a.tmps[82]?.getD undef = .bool false := by rw [← Array.getD_eq_getD_getElem?]; exact hh.dep 44 82 (by kernel_rfl) (by kernel_rfl)
    have hJ := Lib.hid hh.st
    clear hh
    go_simp
    exact ⟨_, rfl, regs.bl_refl _, rfl, hJ.out⟩
  · refine regs.StepOK.yes 23 false 61 rfl rfl (fun L a w1 hh => hh.dep 23 61 (by kernel_rfl) (by kernel_rfl)) fun L a w1 hh => ?_
    have h64 : a.tmps[64]?.getD undef = .bool true := by rw [← Array.getD_eq_getD_getElem?]; exact hh.dep 26 64 (by kernel_rfl) (by kernel_rfl)
    have h83 : a.tmps[83]?.getD undef = .bool false := by rw [← Array.getD_eq_getD_getElem?]; exact hh.dep 45 83 (by kernel_rfl) (by kernel_rfl)
    have hJ := Lib.hid hh.st
    clear hh
    go_simp
    exact ⟨_, rfl, regs.bl_refl _, rfl, hJ.out⟩
  · refine regs.StepOK.plain rfl fun L a w1 hh => ?_
    have h61 : a.tmps[61]?.getD undef = .bool false := by rw [← Array.getD_eq_getD_getElem?]; exact hh.dep 23 61 (by kernel_rfl) (by kernel_rfl)
    have h84 : a.tmps[84]?.getD undef = .bool false := by rw [← Array.getD_eq_getD_getElem?]; exact hh.dep 46 84 (by kernel_rfl) (by kernel_rfl)
    have hJ := Lib.hid hh.st
    clear hh
    go_simp
    exact ⟨_, rfl, regs.bl_refl _, rfl, hJ.out⟩
  intro L w6 val hL hJ hR hv
  have h85 : val 85 = .bool false := hv 47 85 (by kernel_rfl)
  have HJ6 := Lib.hid hJ
  have HR6 := Lib.hid hR
  clear hv hL hJ hR
  simp only [regs.putAll, List.map_cons, List.map_nil]
  rw [h85]
  generalize val 38 = v38
  generalize val 39 = v39
  generalize val 40 = v40
  generalize val 41 = v41
  generalize val 42 = v42
  generalize val 43 = v43
  generalize val 44 = v44
  generalize val 45 = v45
  generalize val 46 = v46
  generalize val 47 = v47
  generalize val 48 = v48
  generalize val 49 = v49
  generalize val 50 = v50
  generalize val 51 = v51
  generalize val 52 = v52
  generalize val 53 = v53
  generalize val 54 = v54
  generalize val 55 = v55
  generalize val 56 = v56
  generalize val 57 = v57
  generalize val 58 = v58
  generalize val 59 = v59
  generalize val 60 = v60
  generalize val 61 = v61
  generalize val 62 = v62
  generalize val 63 = v63
  generalize val 64 = v64
  generalize val 65 = v65
  generalize val 66 = v66
  generalize val 67 = v67
  generalize val 68 = v68
  generalize val 69 = v69
  generalize val 70 = v70
  generalize val 71 = v71
  generalize val 72 = v72
  generalize val 73 = v73
  generalize val 74 = v74
  generalize val 75 = v75
  generalize val 76 = v76
  generalize val 77 = v77
  generalize val 78 = v78
  generalize val 79 = v79
  generalize val 80 = v80
  generalize val 81 = v81
  generalize val 82 = v82
  generalize val 83 = v83
  generalize val 84 = v84
  simp only [Act.put, List.setIfInBounds_toArray, List.set_cons_zero, List.set_cons_succ]
  clear h85
  have B6 : Hid (Below w.heap.size w w6) := B4.out.trans (HR6.out.mono B4.out.size)
  clear HR6
  obtain ⟨⟨c0, c1, c2, c3⟩, -, i0⟩ := HJ6.out.2.1.c4
  obtain ⟨⟨d0, d1, d2, d3⟩, -, i1⟩ := HJ6.out.2.2.1.c4
  rw [HE.out, Bool.false_or] at HWS
  have HW2 : Hid (∀ w, Calls Try.prog 15 #[.agg #[.int .i64 ra, .int .i64 rb, .int .i64 rc, .int .i64 rd], .agg #[.int .i64 sa, .int .i64 sb, .int .i64 sc, .int .i64 sd]] w fun e w' => e = .returned (.bool (decide (sa ≤ ra) && (decide (sb ≤ rb) && (decide (rc ≤ sc) && decide (rd ≤ sd))))) ∧ Below w.heap.size w w') := fun w => by rw [← HWS.out]; exact HW.out w
  clear HW HWS
  generalize h1 : decide (sa ≤ ra) = x1 at *
  generalize h2 : decide (sb ≤ rb) = x2 at *
  generalize h3 : decide (rc ≤ sc) = x3 at *
  generalize h4 : decide (rd ≤ sd) = x4 at *
  cases x1 <;> cases x2 <;> cases x3 <;> cases x4
  all_goals
    simp only [Bool.and_true, Bool.and_false] at HW2
    go_wp2_with (fail)
    refine (HW2.out _).mono ?_
    rintro e w7 ⟨rfl, hb⟩
    have B7 : Hid (Below w.heap.size w w7) := B6.out.trans (hb.mono B6.out.size)
    clear hb c0 c1 c2 c3 d0 d1 d2 d3
    go_wp2_with (fail)
    refine (awake_any _).mono ?_
    rintro e w8 ⟨rfl, hb⟩
    have B8 : Hid (Below w.heap.size w w8) := B7.out.trans (hb.mono B7.out.size)
    clear hb
    go_wp2_with (fail)
    go_ret
    exact ⟨rfl, B8.out⟩
theorem rectForms_walk (r s : Bx) (w : World) : Calls Try.prog 4 #[r.v, s.v] w fun e w' => e = .returned (.bool true) ∧ Below w.heap.size w w' := by
  cases h : (r.rt && s.rt) with
  | false => exact rectForms_no r s w h
  | true =>
    rw [Bool.and_eq_true] at h
    obtain ⟨hr, hs⟩ := h
    obtain ⟨ra, rb, rc, rd⟩ := r
    cases t1 : decide (rc ≤ ra) with
    | true => exact rectForms_a ra rb rc rd s w hr hs t1
    | false =>
      cases t2 : decide (rd ≤ rb) with
      | true => exact rectForms_b ra rb rc rd s w hr hs t1 t2
      | false => exact rectForms_n ra rb rc rd s w hr hs t1 t2
end Go.Proofs.Ytjnhjhbhodhfgaa
