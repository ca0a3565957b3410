/-
  Layer 8: a point taken back; the document's own.
-/
import Derived.Test.YtmbfkaodoankaaaAfF
namespace Go.Proofs.Ytmbfkaodoankaaa
open Go.RowKit

def Mp.from_ (b : Mp) (p : Pt) : Pt := ⟨rnd (b.a * (p.x - b.e) + b.c * (p.y - b.f)) 65536, rnd (b.b * (p.x - b.e) + b.d * (p.y - b.f)) 65536⟩
theorem prod_bd3 {a b : Int} (h1 : -1073741824 ≤ a) (h2 : a ≤ 1073741824) (h3 : -3221225472 ≤ b) (h4 : b ≤ 3221225472) : -3458764513820540928 ≤ a * b ∧ a * b ≤ 3458764513820540928 := by
  have g1 : 0 ≤ (1073741824 - a) * (3221225472 - b) := Int.mul_nonneg (by omega) (by omega)
  have g2 : 0 ≤ (1073741824 + a) * (3221225472 + b) := Int.mul_nonneg (by omega) (by omega)
  have g3 : 0 ≤ (1073741824 - a) * (3221225472 + b) := Int.mul_nonneg (by omega) (by omega)
  have g4 : 0 ≤ (1073741824 + a) * (3221225472 - b) := Int.mul_nonneg (by omega) (by omega)
  rw [Int.sub_mul, Int.mul_sub, Int.mul_sub] at g1
  rw [Int.add_mul, Int.mul_add, Int.mul_add] at g2
  rw [Int.sub_mul, Int.mul_add, Int.mul_add] at g3
  rw [Int.add_mul, Int.mul_sub, Int.mul_sub] at g4
  omega
/-- what a way back's numbers, and a point's, may be -/
def backOK (b : Mp) (p : Pt) : Prop := b.right = true ∧ (-2147483648 ≤ p.x ∧ p.x ≤ 2147483648) ∧ (-2147483648 ≤ p.y ∧ p.y ≤ 2147483648)
set_option maxRecDepth 100000 in
set_option maxHeartbeats 2000000 in
theorem mp_from (b : Mp) (p : Pt) (w : World) (h : backOK b p) : Calls Try.prog 19 #[b.v, p.v] w fun e w' => e = .returned (b.from_ p).v ∧ Below w.heap.size w w' := by
  obtain ⟨hr, hx, hy⟩ := h
  obtain ⟨ra, rb, rc, rd, re, rf⟩ := right_bd hr
  clear hr
  obtain ⟨ka, kb, kc, kd, ke, kf⟩ := b
  obtain ⟨px, py⟩ := p
  unfold Mp.from_
  simp only at ra rb rc rd re rf hx hy ⊢
  obtain ⟨U, hU⟩ : ∃ U, px - ke = U := ⟨_, rfl⟩
  obtain ⟨V, hV⟩ : ∃ V, py - kf = V := ⟨_, rfl⟩
  rw [hU, hV]
  have bu : -3221225472 ≤ U ∧ U ≤ 3221225472 := by omega
  have bv : -3221225472 ≤ V ∧ V ≤ 3221225472 := by omega
  have p1 := prod_bd3 ra.1 ra.2 bu.1 bu.2
  have p2 := prod_bd3 rc.1 rc.2 bv.1 bv.2
  have p3 := prod_bd3 rb.1 rb.2 bu.1 bu.2
  have p4 := prod_bd3 rd.1 rd.2 bv.1 bv.2
  have u1 : wrap64 U = U := IntWalk.wrap64_in _ (by omega)
  have u2 : wrap64 V = V := IntWalk.wrap64_in _ (by omega)
  have u3 : IntKind.i64.wrap U = U := IntWalk.i64_in _ (by omega)
  have u4 : IntKind.i64.wrap V = V := IntWalk.i64_in _ (by omega)
  obtain ⟨P1, hP1⟩ : ∃ P, ka * U = P := ⟨_, rfl⟩
  obtain ⟨P2, hP2⟩ : ∃ P, kc * V = P := ⟨_, rfl⟩
  obtain ⟨P3, hP3⟩ : ∃ P, kb * U = P := ⟨_, rfl⟩
  obtain ⟨P4, hP4⟩ : ∃ P, kd * V = P := ⟨_, rfl⟩
  rw [hP1] at p1
  rw [hP2] at p2
  rw [hP3] at p3
  rw [hP4] at p4
  rw [hP1, hP2, hP3, hP4]
  obtain ⟨S1, hS1⟩ : ∃ S, P1 + P2 = S := ⟨_, rfl⟩
  obtain ⟨S2, hS2⟩ : ∃ S, P3 + P4 = S := ⟨_, rfl⟩
  rw [hS1, hS2]
  have s1 : -6917529027641081856 ≤ S1 ∧ S1 ≤ 6917529027641081856 := by omega
  have s2 : -6917529027641081856 ≤ S2 ∧ S2 ≤ 6917529027641081856 := by omega
  have v1 : IntKind.i64.wrap P1 = P1 := IntWalk.i64_in _ (by omega)
  have v2 : IntKind.i64.wrap P2 = P2 := IntWalk.i64_in _ (by omega)
  have v3 : IntKind.i64.wrap P3 = P3 := IntWalk.i64_in _ (by omega)
  have v4 : IntKind.i64.wrap P4 = P4 := IntWalk.i64_in _ (by omega)
  have v5 : IntKind.i64.wrap S1 = S1 := IntWalk.i64_in _ (by omega)
  have v6 : IntKind.i64.wrap S2 = S2 := IntWalk.i64_in _ (by omega)
  have HW1 := Lib.hid (fun w => whole_any S1 w (by omega) (by omega))
  have HW2 := Lib.hid (fun w => whole_any S2 w (by omega) (by omega))
  generalize rnd S1 65536 = z1 at *
  generalize rnd S2 65536 = z2 at *
  have HU := Lib.hid (And.intro u1 (And.intro u2 (And.intro hU hV)))
  clear ra rb rc rd re rf hx hy bu bv p1 p2 p3 p4 s1 s2
  unfold Mp.v Pt.v
  simp only
  go_enter Try.func19, Try.ntmps19
  go_wp2_with (fail)
  go_quiet (fail)
  clear hU hV u1 u2 u3 u4
  have HB : Hid (Below w.heap.size w ((((w.alloc (.cells #[.int .i64 ka, .int .i64 kb, .int .i64 kc, .int .i64 kd, .int .i64 ke, .int .i64 kf] 45)).alloc (.cells #[.int .i64 px, .int .i64 py] 25)).alloc (.cells #[.int .i64 0, .int .i64 0] 25)).drewN nq)) := Below.drewN' ((((Below.refl _ _).alloc (Nat.le_refl _) _).alloc (by simp) _).alloc (by simp; omega) _) _
  have bm : Hid (Blk ((((w.alloc (.cells #[.int .i64 ka, .int .i64 kb, .int .i64 kc, .int .i64 kd, .int .i64 ke, .int .i64 kf] 45)).alloc (.cells #[.int .i64 px, .int .i64 py] 25)).alloc (.cells #[.int .i64 0, .int .i64 0] 25)).drewN nq) w.heap.size [.int .i64 ka, .int .i64 kb, .int .i64 kc, .int .i64 kd, .int .i64 ke, .int .i64 kf]) := (((blk_new w [.int .i64 ka, .int .i64 kb, .int .i64 kc, .int .i64 kd, .int .i64 ke, .int .i64 kf] _).alloc _).alloc _).drewN _
  have br : Hid (Blk ((((w.alloc (.cells #[.int .i64 ka, .int .i64 kb, .int .i64 kc, .int .i64 kd, .int .i64 ke, .int .i64 kf] 45)).alloc (.cells #[.int .i64 px, .int .i64 py] 25)).alloc (.cells #[.int .i64 0, .int .i64 0] 25)).drewN nq) (w.heap.size + 1 + 1) [.int .i64 0, .int .i64 0]) := (blk_at ((w.alloc _).alloc _) _ (by simp) [.int .i64 0, .int .i64 0] _).drewN _
  generalize ((((w.alloc (.cells #[.int .i64 ka, .int .i64 kb, .int .i64 kc, .int .i64 kd, .int .i64 ke, .int .i64 kf] 45)).alloc (.cells #[.int .i64 px, .int .i64 py] 25)).alloc (.cells #[.int .i64 0, .int .i64 0] 25)).drewN nq) = W1 at *
  have HJS : Hid (JS w.heap.size [(w.heap.size, [.int .i64 ka, .int .i64 kb, .int .i64 kc, .int .i64 kd, .int .i64 ke, .int .i64 kf])] (w.heap.size + 1 + 1) [.int .i64 0, .int .i64 0] [.int .i64 z1, .int .i64 z2] false W1.drew) := JS.start ⟨bm.out, trivial⟩ (by omega) br.out (by intro p hp; simp at hp; subst hp; simp; omega)
  clear bm br HU
  go_wp2_with (fail)
  refine regs.wp_region_put (Below w.heap.size) (fun L wx => JS w.heap.size [(w.heap.size, [.int .i64 ka, .int .i64 kb, .int .i64 kc, .int .i64 kd, .int .i64 ke, .int .i64 kf])] (w.heap.size + 1 + 1) [.int .i64 0, .int .i64 0] [.int .i64 z1, .int .i64 z2] (L 21) wx) [17, 18, 19, 20, 21, 22, 23, 24, 25, 26, 27, 28, 29, 30, 31, 32, 33, 34, 35, 36, 37] (by kernel_rfl) (by kernel_rfl) (fun _ => Below.refl _ _) (fun _ _ _ h k => h.trans k) (fun i => (match i with
    | 0 => regs.Say.val _ (.pointer (some ⟨w.heap.size, 0, none⟩))
    | 1 => regs.Say.val _ (.int .i64 ka)
    | 2 => regs.Say.val _ (.int .i64 U)
    | 3 => regs.Say.val _ (.int .i64 P1)
    | 4 => regs.Say.val _ (.pointer (some ⟨w.heap.size, 2, none⟩))
    | 5 => regs.Say.val _ (.int .i64 kc)
    | 6 => regs.Say.val _ (.int .i64 V)
    | 7 => regs.Say.val _ (.int .i64 P2)
    | 8 => regs.Say.val _ (.int .i64 S1)
    | 9 => regs.Say.val _ (.int .i64 z1)
    | 10 => regs.Say.val _ (.pointer (some ⟨w.heap.size, 1, none⟩))
    | 11 => regs.Say.val _ (.int .i64 kb)
    | 12 => regs.Say.val _ (.int .i64 U)
    | 13 => regs.Say.val _ (.int .i64 P3)
    | 14 => regs.Say.val _ (.pointer (some ⟨w.heap.size, 3, none⟩))
    | 15 => regs.Say.val _ (.int .i64 kd)
    | 16 => regs.Say.val _ (.int .i64 V)
    | 17 => regs.Say.val _ (.int .i64 P4)
    | 18 => regs.Say.val _ (.int .i64 S2)
    | 19 => regs.Say.val _ (.int .i64 z2)
    | 20 => regs.Say.val _ (.agg #[.int .i64 z1, .int .i64 z2])
    | 21 => regs.Say.any _
    | _ => regs.Say.any _ : regs.Say (Below w.heap.size)).p) (fun _ => regs.Say.mono _) (by kernel_rfl) ((Below.refl _ _).drew) (HJS.out) ⟨?_, ?_, ?_, ?_, ?_, ?_, ?_, ?_, ?_, ?_, ?_, ?_, ?_, ?_, ?_, ?_, ?_, ?_, ?_, ?_, ?_, ?_, trivial⟩ ?_
  · refine regs.StepOK.plain rfl fun L a w1 hh => ?_
    have h2 : a.tmps[2]?.getD undef = .pointer (some ⟨w.heap.size, 0, none⟩) := by rw [← Array.getD_eq_getD_getElem?]; exact hh.old 2 rfl
    have hJ := Lib.hid hh.st
    clear hh
    go_simp
    exact ⟨_, rfl, Below.refl _ _, rfl, hJ.out⟩
  · refine regs.StepOK.plain rfl fun L a w1 hh => ?_
    have h17 : a.tmps[17]?.getD undef = .pointer (some ⟨w.heap.size, 0, none⟩) := by rw [← Array.getD_eq_getD_getElem?]; exact hh.dep 0 17 (by kernel_rfl) (by kernel_rfl)
    obtain ⟨⟨c0, c1, c2, c3, c4, c5⟩, -, ci⟩ := (hh.st.1.1.1).c6
    have hJ := Lib.hid hh.st
    clear hh
    go_simp
    exact ⟨_, rfl, Below.refl _ _, rfl, hJ.out⟩
  · refine regs.StepOK.plain rfl fun L a w1 hh => ?_
    have h5 : a.tmps[5]?.getD undef = .int .i64 U := by rw [← Array.getD_eq_getD_getElem?]; exact hh.old 5 rfl
    have hJ := Lib.hid hh.st
    clear hh
    go_simp
    exact ⟨_, rfl, Below.refl _ _, rfl, hJ.out⟩
  · refine regs.StepOK.plain rfl fun L a w1 hh => ?_
    have h18 : a.tmps[18]?.getD undef = .int .i64 ka := by rw [← Array.getD_eq_getD_getElem?]; exact hh.dep 1 18 (by kernel_rfl) (by kernel_rfl)
    have h19 : a.tmps[19]?.getD undef = .int .i64 U := by rw [← Array.getD_eq_getD_getElem?]; exact hh.dep 2 19 (by kernel_rfl) (by kernel_rfl)
    have hJ := Lib.hid hh.st
    clear hh
    go_simp
    exact ⟨_, rfl, Below.refl _ _, rfl, hJ.out⟩
  · refine regs.StepOK.plain rfl fun L a w1 hh => ?_
    have h2 : a.tmps[2]?.getD undef = .pointer (some ⟨w.heap.size, 0, none⟩) := by rw [← Array.getD_eq_getD_getElem?]; exact hh.old 2 rfl
    have hJ := Lib.hid hh.st
    clear hh
    go_simp
    exact ⟨_, rfl, Below.refl _ _, rfl, hJ.out⟩
  · refine regs.StepOK.plain rfl fun L a w1 hh => ?_
    have h21 : a.tmps[21]?.getD undef = .pointer (some ⟨w.heap.size, 2, none⟩) := by rw [← Array.getD_eq_getD_getElem?]; exact hh.dep 4 21 (by kernel_rfl) (by kernel_rfl)
    obtain ⟨⟨c0, c1, c2, c3, c4, c5⟩, -, ci⟩ := (hh.st.1.1.1).c6
    have hJ := Lib.hid hh.st
    clear hh
    go_simp
    exact ⟨_, rfl, Below.refl _ _, rfl, hJ.out⟩
  · refine regs.StepOK.plain rfl fun L a w1 hh => ?_
    have h6 : a.tmps[6]?.getD undef = .int .i64 V := by rw [← Array.getD_eq_getD_getElem?]; exact hh.old 6 rfl
    have hJ := Lib.hid hh.st
    clear hh
    go_simp
    exact ⟨_, rfl, Below.refl _ _, rfl, hJ.out⟩
  · refine regs.StepOK.plain rfl fun L a w1 hh => ?_
    have h22 : a.tmps[22]?.getD undef = .int .i64 kc := by rw [← Array.getD_eq_getD_getElem?]; exact hh.dep 5 22 (by kernel_rfl) (by kernel_rfl)
    have h23 : a.tmps[23]?.getD undef = .int .i64 V := by rw [← Array.getD_eq_getD_getElem?]; exact hh.dep 6 23 (by kernel_rfl) (by kernel_rfl)
    have hJ := Lib.hid hh.st
    clear hh
    go_simp
    exact ⟨_, rfl, Below.refl _ _, rfl, hJ.out⟩
  · refine regs.StepOK.plain rfl fun L a w1 hh => ?_
    have h20 : a.tmps[20]?.getD undef = .int .i64 P1 := by rw [← Array.getD_eq_getD_getElem?]; exact hh.dep 3 20 (by kernel_rfl) (by kernel_rfl)
    have h24 : a.tmps[24]?.getD undef = .int .i64 P2 := by rw [← Array.getD_eq_getD_getElem?]; exact hh.dep 7 24 (by kernel_rfl) (by kernel_rfl)
    have hJ := Lib.hid hh.st
    clear hh
    go_simp
    exact ⟨_, rfl, Below.refl _ _, rfl, hJ.out⟩
  · refine regs.StepOK.plain rfl fun L a w1 hh => ?_
    have h25 : a.tmps[25]?.getD undef = .int .i64 S1 := by rw [← Array.getD_eq_getD_getElem?]; exact hh.dep 8 25 (by kernel_rfl) (by kernel_rfl)
    have := True.intro
    have hJ := Lib.hid hh.st
    clear hh
    go_simp
    refine (HW1.out w1).mono ?_
    rintro e w9 ⟨rfl, hb9⟩
    exact ⟨_, rfl, hb9.mono hJ.out.1.2.1, rfl, JS.below hJ.out hb9⟩
  · refine regs.StepOK.plain rfl fun L a w1 hh => ?_
    have h2 : a.tmps[2]?.getD undef = .pointer (some ⟨w.heap.size, 0, none⟩) := by rw [← Array.getD_eq_getD_getElem?]; exact hh.old 2 rfl
    have hJ := Lib.hid hh.st
    clear hh
    go_simp
    exact ⟨_, rfl, Below.refl _ _, rfl, hJ.out⟩
  · refine regs.StepOK.plain rfl fun L a w1 hh => ?_
    have h27 : a.tmps[27]?.getD undef = .pointer (some ⟨w.heap.size, 1, none⟩) := by rw [← Array.getD_eq_getD_getElem?]; exact hh.dep 10 27 (by kernel_rfl) (by kernel_rfl)
    obtain ⟨⟨c0, c1, c2, c3, c4, c5⟩, -, ci⟩ := (hh.st.1.1.1).c6
    have hJ := Lib.hid hh.st
    clear hh
    go_simp
    exact ⟨_, rfl, Below.refl _ _, rfl, hJ.out⟩
  · refine regs.StepOK.plain rfl fun L a w1 hh => ?_
    have h5 : a.tmps[5]?.getD undef = .int .i64 U := by rw [← Array.getD_eq_getD_getElem?]; exact hh.old 5 rfl
    have hJ := Lib.hid hh.st
    clear hh
    go_simp
    exact ⟨_, rfl, Below.refl _ _, rfl, hJ.out⟩
  · refine regs.StepOK.plain rfl fun L a w1 hh => ?_
    have h28 : a.tmps[28]?.getD undef = .int .i64 kb := by rw [← Array.getD_eq_getD_getElem?]; exact hh.dep 11 28 (by kernel_rfl) (by kernel_rfl)
    have h29 : a.tmps[29]?.getD undef = .int .i64 U := by rw [← Array.getD_eq_getD_getElem?]; exact hh.dep 12 29 (by kernel_rfl) (by kernel_rfl)
    have hJ := Lib.hid hh.st
    clear hh
    go_simp
    exact ⟨_, rfl, Below.refl _ _, rfl, hJ.out⟩
  · refine regs.StepOK.plain rfl fun L a w1 hh => ?_
    have h2 : a.tmps[2]?.getD undef = .pointer (some ⟨w.heap.size, 0, none⟩) := by rw [← Array.getD_eq_getD_getElem?]; exact hh.old 2 rfl
    have hJ := Lib.hid hh.st
    clear hh
    go_simp
    exact ⟨_, rfl, Below.refl _ _, rfl, hJ.out⟩
  · refine regs.StepOK.plain rfl fun L a w1 hh => ?_
    have h31 : a.tmps[31]?.getD undef = .pointer (some ⟨w.heap.size, 3, none⟩) := by rw [← Array.getD_eq_getD_getElem?]; exact hh.dep 14 31 (by kernel_rfl) (by kernel_rfl)
    obtain ⟨⟨c0, c1, c2, c3, c4, c5⟩, -, ci⟩ := (hh.st.1.1.1).c6
    have hJ := Lib.hid hh.st
    clear hh
    go_simp
    exact ⟨_, rfl, Below.refl _ _, rfl, hJ.out⟩
  · refine regs.StepOK.plain rfl fun L a w1 hh => ?_
    have h6 : a.tmps[6]?.getD undef = .int .i64 V := by rw [← Array.getD_eq_getD_getElem?]; exact hh.old 6 rfl
    have hJ := Lib.hid hh.st
    clear hh
    go_simp
    exact ⟨_, rfl, Below.refl _ _, rfl, hJ.out⟩
  · refine regs.StepOK.plain rfl fun L a w1 hh => ?_
    have h32 : a.tmps[32]?.getD undef = .int .i64 kd := by rw [← Array.getD_eq_getD_getElem?]; exact hh.dep 15 32 (by kernel_rfl) (by kernel_rfl)
    have h33 : a.tmps[33]?.getD undef = .int .i64 V := by rw [← Array.getD_eq_getD_getElem?]; exact hh.dep 16 33 (by kernel_rfl) (by kernel_rfl)
    have hJ := Lib.hid hh.st
    clear hh
    go_simp
    exact ⟨_, rfl, Below.refl _ _, rfl, hJ.out⟩
  · refine regs.StepOK.plain rfl fun L a w1 hh => ?_
    have h30 : a.tmps[30]?.getD undef = .int .i64 P3 := by rw [← Array.getD_eq_getD_getElem?]; exact hh.dep 13 30 (by kernel_rfl) (by kernel_rfl)
    have h34 : a.tmps[34]?.getD undef = .int .i64 P4 := by rw [← Array.getD_eq_getD_getElem?]; exact hh.dep 17 34 (by kernel_rfl) (by kernel_rfl)
    have hJ := Lib.hid hh.st
    clear hh
    go_simp
    exact ⟨_, rfl, Below.refl _ _, rfl, hJ.out⟩
  · refine regs.StepOK.plain rfl fun L a w1 hh => ?_
    have h35 : a.tmps[35]?.getD undef = .int .i64 S2 := by rw [← Array.getD_eq_getD_getElem?]; exact hh.dep 18 35 (by kernel_rfl) (by kernel_rfl)
    have := True.intro
    have hJ := Lib.hid hh.st
    clear hh
    go_simp
    refine (HW2.out w1).mono ?_
    rintro e w9 ⟨rfl, hb9⟩
    exact ⟨_, rfl, hb9.mono hJ.out.1.2.1, rfl, JS.below hJ.out hb9⟩
  · refine regs.StepOK.plain rfl fun L a w1 hh => ?_
    have h26 : a.tmps[26]?.getD undef = .int .i64 z1 := by rw [← Array.getD_eq_getD_getElem?]; exact hh.dep 9 26 (by kernel_rfl) (by kernel_rfl)
    have h36 : a.tmps[36]?.getD undef = .int .i64 z2 := by rw [← Array.getD_eq_getD_getElem?]; exact hh.dep 19 36 (by kernel_rfl) (by kernel_rfl)
    have hJ := Lib.hid hh.st
    clear hh
    go_simp
    exact ⟨_, rfl, Below.refl _ _, rfl, hJ.out⟩
  · refine regs.StepOK.plain rfl fun L a w1 hh => ?_
    have h4 : a.tmps[4]?.getD undef = .pointer (some ⟨w.heap.size + 1 + 1, 0, none⟩) := by rw [← Array.getD_eq_getD_getElem?]; exact hh.old 4 rfl
    have h37 : a.tmps[37]?.getD undef = .agg #[.int .i64 z1, .int .i64 z2] := by rw [← Array.getD_eq_getD_getElem?]; exact hh.dep 20 37 (by kernel_rfl) (by kernel_rfl)
    have hB := hh.st.2.2
    rw [hh.un] at hB
    obtain ⟨⟨c0, c1⟩, ⟨f0, f1⟩, ci⟩ := (show Blk w1 (w.heap.size + 1 + 1) [.int .i64 0, .int .i64 0] from hB).c2
    have hP := Lib.hid (JS.put hh.st rfl hh.un)
    clear hh hB
    go_simp
    exact ⟨hP.out.2, ⟨undef, trivial⟩, hP.out.1⟩
  intro L w2 val hL hJ hR hv
  have hB2 := hJ.2.2
  rw [hL 21 (by decide)] at hB2
  have HN2 := Lib.hid (show Blk w2 (w.heap.size + 1 + 1) [.int .i64 z1, .int .i64 z2] from hB2)
  have HK2 := Lib.hid hJ.1.1
  clear hB2
  have HR2 := Lib.hid hR
  clear hv hL hJ hR
  simp only [regs.putAll, List.map_cons, List.map_nil]
  generalize val 17 = v17
  generalize val 18 = v18
  generalize val 19 = v19
  generalize val 20 = v20
  generalize val 21 = v21
  generalize val 22 = v22
  generalize val 23 = v23
  generalize val 24 = v24
  generalize val 25 = v25
  generalize val 26 = v26
  generalize val 27 = v27
  generalize val 28 = v28
  generalize val 29 = v29
  generalize val 30 = v30
  generalize val 31 = v31
  generalize val 32 = v32
  generalize val 33 = v33
  generalize val 34 = v34
  generalize val 35 = v35
  generalize val 36 = v36
  generalize val 37 = v37
  simp only [Act.put, List.setIfInBounds_toArray, List.set_cons_zero, List.set_cons_succ]
  have B2 := Lib.hid (HB.out.trans HR2.out)
  clear HB HR2 HK2 HJS
  go_wp2_with (fail)
  exact blk_ret rfl rfl HN2.out Try.underlying25 rfl (by kernel_rfl) ⟨rfl, B2.out⟩
end Go.Proofs.Ytmbfkaodoankaaa
