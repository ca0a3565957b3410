/-
  Layer 8: the document's own way back.
-/
import Derived.Test.YtmbfkaodoankaaaAfG
namespace Go.Proofs.Ytmbfkaodoankaaa
open Go.RowKit

theorem tdiv16 (n : Int) : (n.tmod 65536 < 0 → n / 65536 = n.tdiv 65536 - 1 ∧ n % 65536 = n.tmod 65536 + 65536) ∧ (0 ≤ n.tmod 65536 → n / 65536 = n.tdiv 65536 ∧ n % 65536 = n.tmod 65536) ∧ (-65536 < n.tmod 65536 ∧ n.tmod 65536 < 65536) := by
  have g1 := Int.emod_nonneg n (show (65536 : Int) ≠ 0 by omega)
  have g2 := Int.emod_lt_of_pos n (show (0 : Int) < 65536 by omega)
  have g3 := Int.tdiv_eq_ediv (a := n) (b := 65536)
  have g4 := Int.tmod_eq_emod (a := n) (b := 65536)
  have hs : (65536 : Int).sign = 1 := rfl
  have hn : ((65536 : Int).natAbs : Int) = 65536 := rfl
  rw [hs] at g3
  have hdv : (65536 ∣ n) ↔ n % 65536 = 0 := ⟨Int.emod_eq_zero_of_dvd, Int.dvd_of_emod_eq_zero⟩
  by_cases h : 0 ≤ n ∨ (65536 : Int) ∣ n
  · rw [if_pos h] at g3 g4
    omega
  · rw [if_neg h] at g3 g4
    rw [hn] at g4
    rw [hdv] at h
    omega
set_option maxHeartbeats 400000 in
theorem dfloor16 (n : Int) (w : World) (h1 : -9223372036854710272 ≤ n) (h2 : n ≤ 9223372036854710272) :
    Calls Try.prog 33 #[.int .i64 n, .int .i64 65536] w fun e w' => e = .returned (.int .i64 (n / 65536)) ∧ w = w' := by
  obtain ⟨a5, a6, a3, a4⟩ := tdiv16 n
  have hmul : n.tdiv 65536 * 65536 + n.tmod 65536 = n := by rw [Int.mul_comm]; exact Int.mul_tdiv_add_tmod n 65536
  by_cases hn : n.tmod 65536 < 0
  · have HF := Lib.hid (a5 hn).1
    obtain ⟨Q, hQ⟩ : ∃ Q, n.tdiv 65536 = Q := ⟨_, rfl⟩
    rw [hQ] at HF hmul
    have b1 : -140737488355329 ≤ Q ∧ Q ≤ 140737488355329 := by omega
    obtain ⟨M, hM⟩ : ∃ M, Q * 65536 = M := ⟨_, rfl⟩
    have hM2 : (Q - 1) * 65536 = M - 65536 := by omega
    rw [hM] at hmul
    have q3 : wrap64 Q = Q := IntWalk.wrap64_in _ (by omega)
    have q4 : wrap64 M = M := IntWalk.wrap64_in _ (by omega)
    have q5 : wrap64 (Q - 1) = Q - 1 := IntWalk.wrap64_in _ (by omega)
    have q6 : wrap64 (M - 65536) = M - 65536 := IntWalk.wrap64_in _ (by omega)
    have t1 : decide (n < M) = true := by simp; omega
    have t2 : decide (n < M - 65536) = false := by simp; omega
    obtain ⟨b1, b2⟩ := b1
    have b3 : -9223372036854775808 ≤ M ∧ M ≤ 9223372036854775807 := by omega
    obtain ⟨b3, b4⟩ := b3
    clear a3 a4 a5 a6 hmul hn h1 h2
    go_enter Try.func33, Try.ntmps33
    go_wp2_with (fail)
    go_loop [5] (fun q => q = .int .i64 Q ∨ q = .int .i64 (Q - 1)) (fun q => (intOf q - (Q - 1)).toNat)
    case atStart => exact .inl rfl
    case round =>
      rcases hrel with rfl | rfl
      · go_wp2_with (fail)
        go_round
        case rel => exact .inr rfl
        case measure => simp [intOf]; omega
      · go_wp2_with (fail)
        go_ret
        exact ⟨ret_num HF.out.symm, rfl⟩
  · have HF := Lib.hid (a6 (by omega)).1
    obtain ⟨Q, hQ⟩ : ∃ Q, n.tdiv 65536 = Q := ⟨_, rfl⟩
    rw [hQ] at HF hmul
    have b1 : -140737488355329 ≤ Q ∧ Q ≤ 140737488355329 := by omega
    obtain ⟨M, hM⟩ : ∃ M, Q * 65536 = M := ⟨_, rfl⟩
    rw [hM] at hmul
    have q3 : wrap64 Q = Q := IntWalk.wrap64_in _ (by omega)
    have q4 : wrap64 M = M := IntWalk.wrap64_in _ (by omega)
    have t1 : decide (n < M) = false := by simp; omega
    obtain ⟨b1, b2⟩ := b1
    have b3 : -9223372036854775808 ≤ M ∧ M ≤ 9223372036854775807 := by omega
    obtain ⟨b3, b4⟩ := b3
    clear a3 a4 a5 a6 hmul hn h1 h2
    go_enter Try.func33, Try.ntmps33
    go_wp2_with (fail)
    go_loop [5] (fun q => q = .int .i64 Q) (fun q => 0)
    case atStart => rfl
    case round =>
      obtain rfl := hrel
      go_wp2_with (fail)
      go_ret
      exact ⟨ret_num HF.out.symm, rfl⟩
set_option maxHeartbeats 400000 in
theorem dround16 (n : Int) (w : World) (h1 : -9223372036854710272 ≤ n) (h2 : n ≤ 9223372036854710272) :
    Calls Try.prog 30 #[.int .i64 n, .int .i64 65536] w fun e w' => e = .returned (.int .i64 (rnd n 65536)) ∧ Below w.heap.size w w' := by
  have HR : Hid (rnd n 65536 = if 65536 - n % 65536 ≤ n % 65536 then n / 65536 + 1 else n / 65536) := rfl
  have HD := Lib.hid (dfloor16 n w h1 h2)
  have g1 := Int.emod_nonneg n (show (65536 : Int) ≠ 0 by omega)
  have g2 := Int.emod_lt_of_pos n (show (0 : Int) < 65536 by omega)
  have g3 : -140737488355329 ≤ n / 65536 ∧ n / 65536 ≤ 140737488355329 := by omega
  have hm : n - n / 65536 * 65536 = n % 65536 := by omega
  generalize n / 65536 = Q at *
  generalize n % 65536 = R at *
  obtain ⟨M, hM⟩ : ∃ M, Q * 65536 = M := ⟨_, rfl⟩
  rw [hM] at hm
  have q4 : wrap64 M = M := IntWalk.wrap64_in _ (by omega)
  have q5 : wrap64 (n - M) = R := by rw [hm]; exact IntWalk.wrap64_in _ (by omega)
  have q5' : n - M = R := hm
  have q6 : wrap64 (65536 - R) = 65536 - R := IntWalk.wrap64_in _ (by omega)
  obtain ⟨g3, g4⟩ := g3
  have b3 : -9223372036854775808 ≤ M ∧ M ≤ 9223372036854775807 := by omega
  obtain ⟨b3, b4⟩ := b3
  clear hm h1 h2
  go_enter Try.func30, Try.ntmps30
  go_wp2_with (fail)
  refine HD.out.mono ?_
  rintro e w' ⟨rfl, rfl⟩
  by_cases t : 65536 - R ≤ R
  · have t1 : decide (65536 - R ≤ R) = true := by simpa using t
    rw [if_pos t] at HR
    clear t
    go_wp2_with (fail)
    go_ret
    exact ⟨ret_num HR.out.symm, Below.refl _ _⟩
  · have t1 : decide (65536 - R ≤ R) = false := by simpa using t
    rw [if_neg t] at HR
    clear t
    go_wp2_with (fail)
    go_ret
    exact ⟨ret_num HR.out.symm, Below.refl _ _⟩
set_option maxRecDepth 100000 in
set_option maxHeartbeats 2000000 in
theorem mp_dfrom (b : Mp) (p : Pt) (w : World) (h : backOK b p) : Calls Try.prog 18 #[b.v, .int .i64 p.x, .int .i64 p.y] w fun e w' => e = .returned (.tuple #[.int .i64 (b.from_ p).x, .int .i64 (b.from_ p).y]) ∧ Below w.heap.size w w' := by
  obtain ⟨hr, hx, hy⟩ := h
  obtain ⟨ra, rb, rc, rd, re, rf⟩ := right_bd hr
  clear hr
  obtain ⟨ka, kb, kc, kd, ke, kf⟩ := b
  obtain ⟨px, py⟩ := p
  unfold Mp.from_
  simp only at ra rb rc rd re rf hx hy ⊢
  obtain ⟨U, hU⟩ : ∃ U, px - ke = U := ⟨_, rfl⟩
  obtain ⟨V, hV⟩ : ∃ V, py - kf = V := ⟨_, rfl⟩
  rw [hU, hV]
  have bu : -3221225472 ≤ U ∧ U ≤ 3221225472 := by omega
  have bv : -3221225472 ≤ V ∧ V ≤ 3221225472 := by omega
  have p1 := prod_bd3 ra.1 ra.2 bu.1 bu.2
  have p2 := prod_bd3 rc.1 rc.2 bv.1 bv.2
  have p3 := prod_bd3 rb.1 rb.2 bu.1 bu.2
  have p4 := prod_bd3 rd.1 rd.2 bv.1 bv.2
  have u1 : wrap64 U = U := IntWalk.wrap64_in _ (by omega)
  have u2 : wrap64 V = V := IntWalk.wrap64_in _ (by omega)
  have u3 : IntKind.i64.wrap U = U := IntWalk.i64_in _ (by omega)
  have u4 : IntKind.i64.wrap V = V := IntWalk.i64_in _ (by omega)
  obtain ⟨P1, hP1⟩ : ∃ P, ka * U = P := ⟨_, rfl⟩
  obtain ⟨P2, hP2⟩ : ∃ P, kc * V = P := ⟨_, rfl⟩
  obtain ⟨P3, hP3⟩ : ∃ P, kb * U = P := ⟨_, rfl⟩
  obtain ⟨P4, hP4⟩ : ∃ P, kd * V = P := ⟨_, rfl⟩
  rw [hP1] at p1
  rw [hP2] at p2
  rw [hP3] at p3
  rw [hP4] at p4
  rw [hP1, hP2, hP3, hP4]
  obtain ⟨S1, hS1⟩ : ∃ S, P1 + P2 = S := ⟨_, rfl⟩
  obtain ⟨S2, hS2⟩ : ∃ S, P3 + P4 = S := ⟨_, rfl⟩
  rw [hS1, hS2]
  have s1 : -6917529027641081856 ≤ S1 ∧ S1 ≤ 6917529027641081856 := by omega
  have s2 : -6917529027641081856 ≤ S2 ∧ S2 ≤ 6917529027641081856 := by omega
  have v1 : IntKind.i64.wrap P1 = P1 := IntWalk.i64_in _ (by omega)
  have v2 : IntKind.i64.wrap P2 = P2 := IntWalk.i64_in _ (by omega)
  have v3 : IntKind.i64.wrap P3 = P3 := IntWalk.i64_in _ (by omega)
  have v4 : IntKind.i64.wrap P4 = P4 := IntWalk.i64_in _ (by omega)
  have v5 : IntKind.i64.wrap S1 = S1 := IntWalk.i64_in _ (by omega)
  have v6 : IntKind.i64.wrap S2 = S2 := IntWalk.i64_in _ (by omega)
  have HW1 := Lib.hid (fun w => dround16 S1 w (by omega) (by omega))
  have HW2 := Lib.hid (fun w => dround16 S2 w (by omega) (by omega))
  generalize rnd S1 65536 = z1 at *
  generalize rnd S2 65536 = z2 at *
  have HU := Lib.hid (And.intro u1 (And.intro u2 (And.intro hU hV)))
  clear ra rb rc rd re rf hx hy bu bv p1 p2 p3 p4 s1 s2
  unfold Mp.v
  simp only
  go_enter Try.func18, Try.ntmps18
  go_wp2_with (fail)
  go_quiet (fail)
  clear hU hV u1 u2 u3 u4
  have HB : Hid (Below w.heap.size w ((w.alloc (.cells #[.int .i64 ka, .int .i64 kb, .int .i64 kc, .int .i64 kd, .int .i64 ke, .int .i64 kf] 48)).drewN nq)) := Below.drewN' ((Below.refl _ _).alloc (Nat.le_refl _) _) _
  have bm : Hid (JBs [(w.heap.size, [.int .i64 ka, .int .i64 kb, .int .i64 kc, .int .i64 kd, .int .i64 ke, .int .i64 kf])] ((w.alloc (.cells #[.int .i64 ka, .int .i64 kb, .int .i64 kc, .int .i64 kd, .int .i64 ke, .int .i64 kf] 48)).drewN nq)) := ⟨(blk_new w [.int .i64 ka, .int .i64 kb, .int .i64 kc, .int .i64 kd, .int .i64 ke, .int .i64 kf] _).drewN _, trivial⟩
  generalize ((w.alloc (.cells #[.int .i64 ka, .int .i64 kb, .int .i64 kc, .int .i64 kd, .int .i64 ke, .int .i64 kf] 48)).drewN nq) = W1 at *
  clear HU
  go_wp2_with (fail)
  refine regs.wp_region_put (regs.bl) (fun _ wx => JBs [(w.heap.size, [.int .i64 ka, .int .i64 kb, .int .i64 kc, .int .i64 kd, .int .i64 ke, .int .i64 kf])] wx) [18, 19, 20, 21, 22, 23, 24, 25, 26, 27, 28, 29, 30, 31, 32, 33, 34, 35, 36, 37, 6, 7] (by kernel_rfl) (by kernel_rfl) (fun _ => regs.bl_refl _) (regs.bl_trans) (fun i => (match i with
    | 0 => regs.Say.val _ (.pointer (some ⟨w.heap.size, 0, none⟩))
    | 1 => regs.Say.val _ (.int .i64 ka)
    | 2 => regs.Say.val _ (.int .i64 U)
    | 3 => regs.Say.val _ (.int .i64 P1)
    | 4 => regs.Say.val _ (.pointer (some ⟨w.heap.size, 2, none⟩))
    | 5 => regs.Say.val _ (.int .i64 kc)
    | 6 => regs.Say.val _ (.int .i64 V)
    | 7 => regs.Say.val _ (.int .i64 P2)
    | 8 => regs.Say.val _ (.int .i64 S1)
    | 9 => regs.Say.val _ (.int .i64 z1)
    | 10 => regs.Say.val _ (.pointer (some ⟨w.heap.size, 1, none⟩))
    | 11 => regs.Say.val _ (.int .i64 kb)
    | 12 => regs.Say.val _ (.int .i64 U)
    | 13 => regs.Say.val _ (.int .i64 P3)
    | 14 => regs.Say.val _ (.pointer (some ⟨w.heap.size, 3, none⟩))
    | 15 => regs.Say.val _ (.int .i64 kd)
    | 16 => regs.Say.val _ (.int .i64 V)
    | 17 => regs.Say.val _ (.int .i64 P4)
    | 18 => regs.Say.val _ (.int .i64 S2)
    | 19 => regs.Say.val _ (.int .i64 z2)
    | 20 => regs.Say.val _ (.int .i64 z1)
    | 21 => regs.Say.val _ (.int .i64 z2)
    | _ => regs.Say.any _ : regs.Say (regs.bl)).p) (fun _ => regs.Say.mono _) (by kernel_rfl) ((Below.refl _ _).drew) (bm.out) ⟨?_, ?_, ?_, ?_, ?_, ?_, ?_, ?_, ?_, ?_, ?_, ?_, ?_, ?_, ?_, ?_, ?_, ?_, ?_, ?_, ?_, ?_, trivial⟩ ?_
  · refine regs.StepOK.plain rfl fun L a w1 hh => ?_
    have h3 : a.tmps[3]?.getD undef = .pointer (some ⟨w.heap.size, 0, none⟩) := by rw [← Array.getD_eq_getD_getElem?]; exact hh.old 3 rfl
    have hJ := Lib.hid hh.st
    clear hh
    go_simp
    exact ⟨_, rfl, regs.bl_refl _, rfl, hJ.out⟩
  · refine regs.StepOK.plain rfl fun L a w1 hh => ?_
    have h18 : a.tmps[18]?.getD undef = .pointer (some ⟨w.heap.size, 0, none⟩) := by rw [← Array.getD_eq_getD_getElem?]; exact hh.dep 0 18 (by kernel_rfl) (by kernel_rfl)
    obtain ⟨⟨c0, c1, c2, c3, c4, c5⟩, -, ci⟩ := (hh.st.1).c6
    have hJ := Lib.hid hh.st
    clear hh
    go_simp
    exact ⟨_, rfl, regs.bl_refl _, rfl, hJ.out⟩
  · refine regs.StepOK.plain rfl fun L a w1 hh => ?_
    have h8 : a.tmps[8]?.getD undef = .int .i64 U := by rw [← Array.getD_eq_getD_getElem?]; exact hh.old 8 rfl
    have hJ := Lib.hid hh.st
    clear hh
    go_simp
    exact ⟨_, rfl, regs.bl_refl _, rfl, hJ.out⟩
  · refine regs.StepOK.plain rfl fun L a w1 hh => ?_
    have h19 : a.tmps[19]?.getD undef = .int .i64 ka := by rw [← Array.getD_eq_getD_getElem?]; exact hh.dep 1 19 (by kernel_rfl) (by kernel_rfl)
    have h20 : a.tmps[20]?.getD undef = .int .i64 U := by rw [← Array.getD_eq_getD_getElem?]; exact hh.dep 2 20 (by kernel_rfl) (by kernel_rfl)
    have hJ := Lib.hid hh.st
    clear hh
    go_simp
    exact ⟨_, rfl, regs.bl_refl _, rfl, hJ.out⟩
  · refine regs.StepOK.plain rfl fun L a w1 hh => ?_
    have h3 : a.tmps[3]?.getD undef = .pointer (some ⟨w.heap.size, 0, none⟩) := by rw [← Array.getD_eq_getD_getElem?]; exact hh.old 3 rfl
    have hJ := Lib.hid hh.st
    clear hh
    go_simp
    exact ⟨_, rfl, regs.bl_refl _, rfl, hJ.out⟩
  · refine regs.StepOK.plain rfl fun L a w1 hh => ?_
    have h22 : a.tmps[22]?.getD undef = .pointer (some ⟨w.heap.size, 2, none⟩) := by rw [← Array.getD_eq_getD_getElem?]; exact hh.dep 4 22 (by kernel_rfl) (by kernel_rfl)
    obtain ⟨⟨c0, c1, c2, c3, c4, c5⟩, -, ci⟩ := (hh.st.1).c6
    have hJ := Lib.hid hh.st
    clear hh
    go_simp
    exact ⟨_, rfl, regs.bl_refl _, rfl, hJ.out⟩
  · refine regs.StepOK.plain rfl fun L a w1 hh => ?_
    have h9 : a.tmps[9]?.getD undef = .int .i64 V := by rw [← Array.getD_eq_getD_getElem?]; exact hh.old 9 rfl
    have hJ := Lib.hid hh.st
    clear hh
    go_simp
    exact ⟨_, rfl, regs.bl_refl _, rfl, hJ.out⟩
  · refine regs.StepOK.plain rfl fun L a w1 hh => ?_
    have h23 : a.tmps[23]?.getD undef = .int .i64 kc := by rw [← Array.getD_eq_getD_getElem?]; exact hh.dep 5 23 (by kernel_rfl) (by kernel_rfl)
    have h24 : a.tmps[24]?.getD undef = .int .i64 V := by rw [← Array.getD_eq_getD_getElem?]; exact hh.dep 6 24 (by kernel_rfl) (by kernel_rfl)
    have hJ := Lib.hid hh.st
    clear hh
    go_simp
    exact ⟨_, rfl, regs.bl_refl _, rfl, hJ.out⟩
  · refine regs.StepOK.plain rfl fun L a w1 hh => ?_
    have h21 : a.tmps[21]?.getD undef = .int .i64 P1 := by rw [← Array.getD_eq_getD_getElem?]; exact hh.dep 3 21 (by kernel_rfl) (by kernel_rfl)
    have h25 : a.tmps[25]?.getD undef = .int .i64 P2 := by rw [← Array.getD_eq_getD_getElem?]; exact hh.dep 7 25 (by kernel_rfl) (by kernel_rfl)
    have hJ := Lib.hid hh.st
    clear hh
    go_simp
    exact ⟨_, rfl, regs.bl_refl _, rfl, hJ.out⟩
  · refine regs.StepOK.plain rfl fun L a w1 hh => ?_
    have h26 : a.tmps[26]?.getD undef = .int .i64 S1 := by rw [← Array.getD_eq_getD_getElem?]; exact hh.dep 8 26 (by kernel_rfl) (by kernel_rfl)
    have := True.intro
    have hJ := Lib.hid hh.st
    clear hh
    go_simp
    refine (HW1.out w1).mono ?_
    rintro e w9 ⟨rfl, hb9⟩
    exact ⟨_, rfl, hb9, rfl, JBs.below hJ.out hb9⟩
  · refine regs.StepOK.plain rfl fun L a w1 hh => ?_
    have h3 : a.tmps[3]?.getD undef = .pointer (some ⟨w.heap.size, 0, none⟩) := by rw [← Array.getD_eq_getD_getElem?]; exact hh.old 3 rfl
    have hJ := Lib.hid hh.st
    clear hh
    go_simp
    exact ⟨_, rfl, regs.bl_refl _, rfl, hJ.out⟩
  · refine regs.StepOK.plain rfl fun L a w1 hh => ?_
    have h28 : a.tmps[28]?.getD undef = .pointer (some ⟨w.heap.size, 1, none⟩) := by rw [← Array.getD_eq_getD_getElem?]; exact hh.dep 10 28 (by kernel_rfl) (by kernel_rfl)
    obtain ⟨⟨c0, c1, c2, c3, c4, c5⟩, -, ci⟩ := (hh.st.1).c6
    have hJ := Lib.hid hh.st
    clear hh
    go_simp
    exact ⟨_, rfl, regs.bl_refl _, rfl, hJ.out⟩
  · refine regs.StepOK.plain rfl fun L a w1 hh => ?_
    have h8 : a.tmps[8]?.getD undef = .int .i64 U := by rw [← Array.getD_eq_getD_getElem?]; exact hh.old 8 rfl
    have hJ := Lib.hid hh.st
    clear hh
    go_simp
    exact ⟨_, rfl, regs.bl_refl _, rfl, hJ.out⟩
  · refine regs.StepOK.plain rfl fun L a w1 hh => ?_
    have h29 : a.tmps[29]?.getD undef = .int .i64 kb := by rw [← Array.getD_eq_getD_getElem?]; exact hh.dep 11 29 (by kernel_rfl) (by kernel_rfl)
    have h30 : a.tmps[30]?.getD undef = .int .i64 U := by rw [← Array.getD_eq_getD_getElem?]; exact hh.dep 12 30 (by kernel_rfl) (by kernel_rfl)
    have hJ := Lib.hid hh.st
    clear hh
    go_simp
    exact ⟨_, rfl, regs.bl_refl _, rfl, hJ.out⟩
  · refine regs.StepOK.plain rfl fun L a w1 hh => ?_
    have h3 : a.tmps[3]?.getD undef = .pointer (some ⟨w.heap.size, 0, none⟩) := by rw [← Array.getD_eq_getD_getElem?]; exact hh.old 3 rfl
    have hJ := Lib.hid hh.st
    clear hh
    go_simp
    exact ⟨_, rfl, regs.bl_refl _, rfl, hJ.out⟩
  · refine regs.StepOK.plain rfl fun L a w1 hh => ?_
    have h32 : a.tmps[32]?.getD undef = .pointer (some ⟨w.heap.size, 3, none⟩) := by rw [← Array.getD_eq_getD_getElem?]; exact hh.dep 14 32 (by kernel_rfl) (by kernel_rfl)
    obtain ⟨⟨c0, c1, c2, c3, c4, c5⟩, -, ci⟩ := (hh.st.1).c6
    have hJ := Lib.hid hh.st
    clear hh
    go_simp
    exact ⟨_, rfl, regs.bl_refl _, rfl, hJ.out⟩
  · refine regs.StepOK.plain rfl fun L a w1 hh => ?_
    have h9 : a.tmps[9]?.getD undef = .int .i64 V := by rw [← Array.getD_eq_getD_getElem?]; exact hh.old 9 rfl
    have hJ := Lib.hid hh.st
    clear hh
    go_simp
    exact ⟨_, rfl, regs.bl_refl _, rfl, hJ.out⟩
  · refine regs.StepOK.plain rfl fun L a w1 hh => ?_
    have h33 : a.tmps[33]?.getD undef = .int .i64 kd := by rw [← Array.getD_eq_getD_getElem?]; exact hh.dep 15 33 (by kernel_rfl) (by kernel_rfl)
    have h34 : a.tmps[34]?.getD undef = .int .i64 V := by rw [← Array.getD_eq_getD_getElem?]; exact hh.dep 16 34 (by kernel_rfl) (by kernel_rfl)
    have hJ := Lib.hid hh.st
    clear hh
    go_simp
    exact ⟨_, rfl, regs.bl_refl _, rfl, hJ.out⟩
  · refine regs.StepOK.plain rfl fun L a w1 hh => ?_
    have h31 : a.tmps[31]?.getD undef = .int .i64 P3 := by rw [← Array.getD_eq_getD_getElem?]; exact hh.dep 13 31 (by kernel_rfl) (by kernel_rfl)
    have h35 : a.tmps[35]?.getD undef = .int .i64 P4 := by rw [← Array.getD_eq_getD_getElem?]; exact hh.dep 17 35 (by kernel_rfl) (by kernel_rfl)
    have hJ := Lib.hid hh.st
    clear hh
    go_simp
    exact ⟨_, rfl, regs.bl_refl _, rfl, hJ.out⟩
  · refine regs.StepOK.plain rfl fun L a w1 hh => ?_
    have h36 : a.tmps[36]?.getD undef = .int .i64 S2 := by rw [← Array.getD_eq_getD_getElem?]; exact hh.dep 18 36 (by kernel_rfl) (by kernel_rfl)
    have := True.intro
    have hJ := Lib.hid hh.st
    clear hh
    go_simp
    refine (HW2.out w1).mono ?_
    rintro e w9 ⟨rfl, hb9⟩
    exact ⟨_, rfl, hb9, rfl, JBs.below hJ.out hb9⟩
  · refine regs.StepOK.plain rfl fun L a w1 hh => ?_
    have h27 : a.tmps[27]?.getD undef = .int .i64 z1 := by rw [← Array.getD_eq_getD_getElem?]; exact hh.dep 9 27 (by kernel_rfl) (by kernel_rfl)
    have hJ := Lib.hid hh.st
    clear hh
    go_simp
    exact ⟨_, rfl, regs.bl_refl _, rfl, hJ.out⟩
  · refine regs.StepOK.plain rfl fun L a w1 hh => ?_
    have h37 : a.tmps[37]?.getD undef = .int .i64 z2 := by rw [← Array.getD_eq_getD_getElem?]; exact hh.dep 19 37 (by kernel_rfl) (by kernel_rfl)
    have hJ := Lib.hid hh.st
    clear hh
    go_simp
    exact ⟨_, rfl, regs.bl_refl _, rfl, hJ.out⟩
  intro L w2 val hL hJ hR hv
  have h6 : val 6 = .int .i64 z1 := hv 20 6 (by kernel_rfl)
  have h7 : val 7 = .int .i64 z2 := hv 21 7 (by kernel_rfl)
  have HK2 := Lib.hid hJ
  have HR2 := Lib.hid hR
  clear hv hL hJ hR
  simp only [regs.putAll, List.map_cons, List.map_nil]
  rw [h6, h7]
  generalize val 18 = v18
  generalize val 19 = v19
  generalize val 20 = v20
  generalize val 21 = v21
  generalize val 22 = v22
  generalize val 23 = v23
  generalize val 24 = v24
  generalize val 25 = v25
  generalize val 26 = v26
  generalize val 27 = v27
  generalize val 28 = v28
  generalize val 29 = v29
  generalize val 30 = v30
  generalize val 31 = v31
  generalize val 32 = v32
  generalize val 33 = v33
  generalize val 34 = v34
  generalize val 35 = v35
  generalize val 36 = v36
  generalize val 37 = v37
  simp only [Act.put, List.setIfInBounds_toArray, List.set_cons_zero, List.set_cons_succ]
  clear h6 h7
  have B2 := Lib.hid (HB.out.trans (HR2.out.mono HB.out.size))
  clear HB HR2 HK2
  go_wp2_with (fail)
  go_ret2
  exact ⟨rfl, B2.out⟩
end Go.Proofs.Ytmbfkaodoankaaa
