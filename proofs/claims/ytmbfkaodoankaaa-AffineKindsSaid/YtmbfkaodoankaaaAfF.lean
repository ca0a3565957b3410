/-
  Layer 8: the way back.
-/
import Derived.Test.YtmbfkaodoankaaaAfE
import Derived.Test.YtmbfkaodoankaaaNewb
namespace Go.Proofs.Ytmbfkaodoankaaa
open Go.RowKit

def ovr (n d : Int) : Int := if d < 0 then rnd (-n * 4294967296) (-d) else rnd (n * 4294967296) d
theorem drew_bel {w w' : World} (h : Drew w w') : Below w.heap.size w w' := h.below _
set_option maxHeartbeats 400000 in
theorem over_any (n d : Int) (w : World) (h1 : -1073741824 ≤ n) (h2 : n ≤ 1073741824) (h3 : -2305843009213693952 ≤ d) (h4 : d ≤ 2305843009213693952) (h0 : d ≠ 0) :
    Calls Try.prog 29 #[.int .i64 n, .int .i64 d] w fun e w' => e = .returned (.int .i64 (ovr n d)) ∧ Below w.heap.size w w' := by
  by_cases hd : d < 0
  · have HR := Lib.hid (fun w => round_any (-n * 4294967296) (-d) w (by omega) (by omega) (by omega) (by omega))
    have e : ovr n d = rnd (-n * 4294967296) (-d) := if_pos hd
    rw [e]
    clear e
    obtain ⟨M, hM⟩ : ∃ M, -n = M := ⟨_, rfl⟩
    obtain ⟨D, hD⟩ : ∃ D, -d = D := ⟨_, rfl⟩
    rw [hM, hD] at HR ⊢
    have b1 : -1073741824 ≤ M ∧ M ≤ 1073741824 := by omega
    have b2 : -2305843009213693952 ≤ D ∧ D ≤ 2305843009213693952 := by omega
    obtain ⟨K, hK⟩ : ∃ K, M * 65536 = K := ⟨_, rfl⟩
    have e : M * 4294967296 = K * 65536 := by omega
    have b3 : -70368744177664 ≤ K ∧ K ≤ 70368744177664 := by omega
    rw [e] at HR ⊢
    clear e
    obtain ⟨X, hX⟩ : ∃ X, K * 65536 = X := ⟨_, rfl⟩
    have b4 : -4611686018427387904 ≤ X ∧ X ≤ 4611686018427387904 := by omega
    rw [hX] at HR ⊢
    have t1 : decide (d < 0) = true := by simpa using hd
    have q1 : wrap64 M = M := IntWalk.wrap64_in _ (by omega)
    have q2 : wrap64 D = D := IntWalk.wrap64_in _ (by omega)
    have q3 : wrap64 K = K := IntWalk.wrap64_in _ (by omega)
    have q4 : wrap64 X = X := IntWalk.wrap64_in _ (by omega)
    clear hd h1 h2 h3 h4 h0 b1 b2 b3 b4
    go_enter Try.func29, Try.ntmps29
    go_wp2_with (fail)
    refine (HR.out _).mono ?_
    rintro e w' ⟨rfl, hb⟩
    go_wp2_with (fail)
    go_ret
    exact ⟨rfl, drew_bel hb⟩
  · have HR := Lib.hid (fun w => round_any (n * 4294967296) d w (by omega) (by omega) (by omega) (by omega))
    have e : ovr n d = rnd (n * 4294967296) d := if_neg hd
    rw [e]
    clear e
    obtain ⟨K, hK⟩ : ∃ K, n * 65536 = K := ⟨_, rfl⟩
    have e : n * 4294967296 = K * 65536 := by omega
    have b3 : -70368744177664 ≤ K ∧ K ≤ 70368744177664 := by omega
    rw [e] at HR ⊢
    clear e
    obtain ⟨X, hX⟩ : ∃ X, K * 65536 = X := ⟨_, rfl⟩
    have b4 : -4611686018427387904 ≤ X ∧ X ≤ 4611686018427387904 := by omega
    rw [hX] at HR ⊢
    have t1 : decide (d < 0) = false := by simpa using hd
    have q3 : wrap64 K = K := IntWalk.wrap64_in _ (by omega)
    have q4 : wrap64 X = X := IntWalk.wrap64_in _ (by omega)
    clear hd h1 h2 h3 h4 h0 b3 b4
    go_enter Try.func29, Try.ntmps29
    go_wp2_with (fail)
    refine (HR.out _).mono ?_
    rintro e w' ⟨rfl, hb⟩
    go_wp2_with (fail)
    go_ret
    exact ⟨rfl, drew_bel hb⟩
theorem rnd_split (n : Int) : n / 65536 + rnd (n % 65536) 65536 = rnd n 65536 := by
  have e1 : n % 65536 % 65536 = n % 65536 := by omega
  have e2 : n % 65536 / 65536 = 0 := by omega
  unfold rnd
  rw [e1, e2]
  split <;> omega
set_option maxHeartbeats 400000 in
theorem whole_any (n : Int) (w : World) (h1 : -9223372036854775808 ≤ n) (h2 : n ≤ 9223372036854775807) :
    Calls Try.prog 31 #[.int .i64 n] w fun e w' => e = .returned (.int .i64 (rnd n 65536)) ∧ Below w.heap.size w w' := by
  have HR := Lib.hid (fun w => round_any (n % 65536) 65536 w (by omega) (by omega) (by omega) (by omega))
  have ha := i64_and16 n
  have hs := rnd_split n
  have b1 : -140737488355328 ≤ n / 65536 ∧ n / 65536 ≤ 140737488355328 := by omega
  have b2 : 0 ≤ rnd (n % 65536) 65536 ∧ rnd (n % 65536) 65536 ≤ 1 := by unfold rnd; split <;> omega
  obtain ⟨R, hR⟩ : ∃ R, rnd (n % 65536) 65536 = R := ⟨_, rfl⟩
  rw [hR] at HR hs b2
  rw [← hs]
  clear hs hR
  generalize n % 65536 = m at *
  have h2p : n / 2 ^ 16 = n / 65536 := rfl
  obtain ⟨Q, hQ⟩ : ∃ Q, n / 65536 = Q := ⟨_, rfl⟩
  rw [hQ] at h2p b1 ⊢
  have q1 : wrap64 (Q + R) = Q + R := IntWalk.wrap64_in _ (by omega)
  clear h1 h2 b1 b2
  go_enter Try.func31, Try.ntmps31
  go_wp2_with (fail)
  refine (HR.out _).mono ?_
  rintro e w' ⟨rfl, hb⟩
  go_wp2_with (fail)
  go_ret
  exact ⟨ret_num q1, drew_bel hb⟩

/-! ### The way back -/
def Mp.det (m : Mp) : Int := m.a * m.d - m.b * m.c
def Mp.bk (m : Mp) : Mp := ⟨ovr m.d m.det, ovr (-m.b) m.det, ovr (-m.c) m.det, ovr m.a m.det, m.e, m.f⟩
def Mp.l4 (m : Mp) : List Int := [m.a, m.b, m.c, m.d]
def Mp.back (m : Mp) : Mp × Int := if m.right = false then (Mp.o, 11) else if m.det = 0 then (Mp.o, 43) else if allR m.bk.l4 = true then (m.bk, 0) else (Mp.o, 35)
theorem right_bd {m : Mp} (h : m.right = true) : (-1073741824 ≤ m.a ∧ m.a ≤ 1073741824) ∧ (-1073741824 ≤ m.b ∧ m.b ≤ 1073741824) ∧ (-1073741824 ≤ m.c ∧ m.c ≤ 1073741824) ∧ (-1073741824 ≤ m.d ∧ m.d ≤ 1073741824) ∧ (-1073741824 ≤ m.e ∧ m.e ≤ 1073741824) ∧ (-1073741824 ≤ m.f ∧ m.f ≤ 1073741824) := by
  unfold Mp.right Mp.l allR at h
  simp only [List.all_cons, List.all_nil, Bool.and_true, Bool.and_eq_true] at h
  exact ⟨rightB_of h.1, rightB_of h.2.1, rightB_of h.2.2.1, rightB_of h.2.2.2.1, rightB_of h.2.2.2.2.1, rightB_of h.2.2.2.2.2⟩
theorem o_ret {tmps : Array Value} {W : World} {Q : Ending → World → Prop} {g : Nat} {v : Value} {m : Mp} (hp : tmps.getD 2 undef = .pointer (some ⟨g, 0, none⟩)) (hq : tmps.getD 3 undef = v) (hB : Blk W g m.cs) (h : Q (.returned (.tuple #[m.v, v])) W) :
    bodyPost Try.prog Try.f16 Q Exit.ret { tmps := tmps, defers := [] } W :=
  blk_ret2 rfl hp hq hB Try.underlying45 rfl (by kernel_rfl) h
set_option maxRecDepth 100000 in
set_option maxHeartbeats 4000000 in
theorem mp_back (m : Mp) (w : World) : Calls Try.prog 16 #[m.v] w fun e w' => e = .returned (.tuple #[m.back.1.v, .int .i64 m.back.2]) ∧ Below w.heap.size w w' := by
  have HRM := Lib.hid (fun w => mp_right m w)
  have HBK : Hid (m.back = if m.right = false then (Mp.o, 11) else if m.det = 0 then (Mp.o, 43) else if allR m.bk.l4 = true then (m.bk, 0) else (Mp.o, 35)) := rfl
  have HRB := Lib.hid (right_bd (m := m))
  obtain ⟨R, hR⟩ : ∃ R, m.back = R := ⟨_, rfl⟩
  rw [hR] at HBK ⊢
  clear hR
  obtain ⟨RM, RE⟩ := R
  have HDET : Hid (m.det = m.a * m.d - m.b * m.c) := rfl
  have HKD : Hid (m.bk = ⟨ovr m.d m.det, ovr (-m.b) m.det, ovr (-m.c) m.det, ovr m.a m.det, m.e, m.f⟩) := rfl
  generalize m.right = y at *
  generalize m.det = D at *
  generalize m.bk = K at *
  obtain ⟨ka, kb, kc, kd, ke, kf⟩ := m
  unfold Mp.v at HRM ⊢
  simp only at HRM HRB HDET HKD ⊢
  go_enter Try.func16, Try.ntmps16
  go_wp2_with (fail)
  refine (HRM.out _).mono ?_
  rintro e1 W1 ⟨rfl, hb⟩
  have B1 : Hid (Below w.heap.size w W1) := (((Below.refl _ _).alloc (Nat.le_refl _) _).alloc (by simp) _).trans (hb.mono (by simp; omega))
  have bm1 : Hid (Blk W1 w.heap.size [.int .i64 ka, .int .i64 kb, .int .i64 kc, .int .i64 kd, .int .i64 ke, .int .i64 kf]) := ((blk_new w [.int .i64 ka, .int .i64 kb, .int .i64 kc, .int .i64 kd, .int .i64 ke, .int .i64 kf] _).alloc _).below hb (by simp; omega)
  have br1 : Hid (Blk W1 (w.heap.size + 1) Mp.o.cs) := (blk_at (w.alloc _) _ (by simp) Mp.o.cs _).below hb (by simp)
  clear hb HRM
  cases y with
  | false =>
    have hT := HBK.out.trans (if_pos rfl)
    injection hT with h1 h2
    subst h1; subst h2
    obtain ⟨⟨c0, c1, c2, c3, c4, c5⟩, ⟨f0, f1, f2, f3, f4, f5⟩, ri⟩ := Blk.c6 br1.out
    clear HBK HRB HDET HKD bm1
    go_wp2_with (fail)
    exact o_ret (m := Mp.o) rfl rfl (Blk.put6 br1.out _ _ _ _ _ _) ⟨rfl, below6 B1.out (by omega) _ _ _ _ _ _⟩
  | true =>
    have HBK2 := Lib.hid (HBK.out.trans (if_neg (by decide)))
    obtain ⟨ra, rb, rc, rd, re, rf⟩ := HRB.out rfl
    clear HBK HRB
    obtain ⟨⟨m0, m1, m2, m3, m4, m5⟩, -, mi⟩ := Blk.c6 bm1.out
    have hdet := HDET.out
    obtain ⟨x1, x2⟩ := prod_bd ra.1 ra.2 rd.1 rd.2
    obtain ⟨y1, y2⟩ := prod_bd rb.1 rb.2 rc.1 rc.2
    obtain ⟨X, hX⟩ : ∃ X, ka * kd = X := ⟨_, rfl⟩
    obtain ⟨Y, hY⟩ : ∃ Y, kb * kc = Y := ⟨_, rfl⟩
    rw [hX, hY] at hdet
    rw [hX] at x1 x2
    rw [hY] at y1 y2
    have q1 : wrap64 X = X := IntWalk.wrap64_in _ (by omega)
    have q2 : wrap64 Y = Y := IntWalk.wrap64_in _ (by omega)
    have q3 : wrap64 (X - Y) = D := by rw [hdet]; exact IntWalk.wrap64_in _ (by omega)
    have HDB : Hid (-2305843009213693952 ≤ D ∧ D ≤ 2305843009213693952) := by rw [hdet]; show _ ∧ _; omega
    have HRR := Lib.hid (And.intro ra (And.intro rb (And.intro rc rd)))
    clear hdet x1 x2 y1 y2 HDET ra rb rc rd re rf
    by_cases hD : D = 0
    · have t : (D == 0) = true := by simpa using hD
      have hT := HBK2.out.trans (if_pos hD)
      injection hT with h1 h2
      subst h1; subst h2
      clear hD HBK2 HKD HDB HRR
      obtain ⟨⟨c0, c1, c2, c3, c4, c5⟩, ⟨f0, f1, f2, f3, f4, f5⟩, ri⟩ := Blk.c6 br1.out
      go_wp2_with (fail)
      exact o_ret (m := Mp.o) rfl rfl (Blk.put6 br1.out _ _ _ _ _ _) ⟨rfl, below6 B1.out (by omega) _ _ _ _ _ _⟩
    · have t : (D == 0) = false := by simpa using hD
      have HBK3 := Lib.hid (HBK2.out.trans (if_neg hD))
      have HO1 := Lib.hid (fun w => over_any kd D w HRR.out.2.2.2.1 HRR.out.2.2.2.2 HDB.out.1 HDB.out.2 hD)
      have HO2 := Lib.hid (fun w => over_any (-kb) D w (by have := HRR.out.2.1; omega) (by have := HRR.out.2.1; omega) HDB.out.1 HDB.out.2 hD)
      have HO3 := Lib.hid (fun w => over_any (-kc) D w (by have := HRR.out.2.2.1; omega) (by have := HRR.out.2.2.1; omega) HDB.out.1 HDB.out.2 hD)
      have HO4 := Lib.hid (fun w => over_any ka D w HRR.out.1.1 HRR.out.1.2 HDB.out.1 HDB.out.2 hD)
      generalize ovr kd D = z1 at *
      generalize ovr (-kb) D = z2 at *
      generalize ovr (-kc) D = z3 at *
      generalize ovr ka D = z4 at *
      have hK := HKD.out
      subst hK
      have hw1 : wrap64 (-kb) = -kb := IntWalk.wrap64_in _ (by have := HRR.out.2.1; omega)
      have hw2 : wrap64 (-kc) = -kc := IntWalk.wrap64_in _ (by have := HRR.out.2.2.1; omega)
      have hv1 : IntKind.i64.wrap (-kb) = -kb := IntWalk.i64_in _ (by have := HRR.out.2.1; omega)
      have hv2 : IntKind.i64.wrap (-kc) = -kc := IntWalk.i64_in _ (by have := HRR.out.2.2.1; omega)
      clear hD HBK2 HKD HDB HRR
      have HK1 : Hid (JBs [(w.heap.size, [.int .i64 ka, .int .i64 kb, .int .i64 kc, .int .i64 kd, .int .i64 ke, .int .i64 kf]), (w.heap.size + 1, Mp.o.cs)] W1) := ⟨bm1.out, br1.out, trivial⟩
      clear bm1 br1
      go_wp2_with (fail)
      simp only [q1, q2, q3]
      clear m0 m1 m2 m3 m4 m5 mi q1 q2 q3 hX hY
      refine regv.wp_region_put (Below W1.heap.size) (fun L V wx => JN W1.heap.size [(w.heap.size, [.int .i64 ka, .int .i64 kb, .int .i64 kc, .int .i64 kd, .int .i64 ke, .int .i64 kf]), ((w.heap.size + 1), [.int .i64 0, .int .i64 0, .int .i64 0, .int .i64 0, .int .i64 0, .int .i64 0])] [.int .i64 0, .int .i64 0, .int .i64 0, .int .i64 0, .int .i64 0, .int .i64 0] [.int .i64 z1, .int .i64 z2, .int .i64 z3, .int .i64 z4, .int .i64 ke, .int .i64 kf] (L 23) (L 24) (V 5) wx) [24, 25, 26, 27, 28, 29, 30, 31, 32, 33, 34, 35, 36, 37, 38, 39, 40, 41, 42, 43, 44, 45, 46, 5] (by kernel_rfl) (by kernel_rfl) (fun _ => Below.refl _ _) (fun _ _ _ h k => h.trans k) (fun i => (match i with
        | 0 => regs.Say.val _ (.pointer (some ⟨w.heap.size, 3, none⟩))
        | 1 => regs.Say.val _ (.int .i64 kd)
        | 2 => regs.Say.val _ (.int .i64 D)
        | 3 => regs.Say.val _ (.int .i64 z1)
        | 4 => regs.Say.val _ (.pointer (some ⟨w.heap.size, 1, none⟩))
        | 5 => regs.Say.val _ (.int .i64 kb)
        | 6 => regs.Say.val _ (.int .i64 (-kb))
        | 7 => regs.Say.val _ (.int .i64 D)
        | 8 => regs.Say.val _ (.int .i64 z2)
        | 9 => regs.Say.val _ (.pointer (some ⟨w.heap.size, 2, none⟩))
        | 10 => regs.Say.val _ (.int .i64 kc)
        | 11 => regs.Say.val _ (.int .i64 (-kc))
        | 12 => regs.Say.val _ (.int .i64 D)
        | 13 => regs.Say.val _ (.int .i64 z3)
        | 14 => regs.Say.val _ (.pointer (some ⟨w.heap.size, 0, none⟩))
        | 15 => regs.Say.val _ (.int .i64 ka)
        | 16 => regs.Say.val _ (.int .i64 D)
        | 17 => regs.Say.val _ (.int .i64 z4)
        | 18 => regs.Say.val _ (.pointer (some ⟨w.heap.size, 4, none⟩))
        | 19 => regs.Say.val _ (.int .i64 ke)
        | 20 => regs.Say.val _ (.pointer (some ⟨w.heap.size, 5, none⟩))
        | 21 => regs.Say.val _ (.int .i64 kf)
        | 22 => regs.Say.val _ (.agg #[.int .i64 z1, .int .i64 z2, .int .i64 z3, .int .i64 z4, .int .i64 ke, .int .i64 kf])
        | 23 => regs.Say.any _
        | 24 => regs.Say.any _
        | _ => regs.Say.any _ : regs.Say (Below W1.heap.size)).p) (fun _ => regs.Say.mono _) (by kernel_rfl) ((Below.refl _ _).drew) (JN.start (w := W1.drew) HK1.out) ⟨?_, ?_, ?_, ?_, ?_, ?_, ?_, ?_, ?_, ?_, ?_, ?_, ?_, ?_, ?_, ?_, ?_, ?_, ?_, ?_, ?_, ?_, ?_, ?_, ?_, trivial⟩ ?_
      · refine regv.StepOK.plain rfl fun L a w1 hh => ?_
        have h1 : a.tmps[1]?.getD undef = .pointer (some ⟨w.heap.size, 0, none⟩) := by rw [← Array.getD_eq_getD_getElem?]; exact hh.old 1 rfl
        have hJ := Lib.hid hh.st
        clear hh
        go_simp
        exact ⟨_, rfl, Below.refl _ _, rfl, JN.slots hJ.out (regv.sl_ne (by decide))⟩
      · refine regv.StepOK.plain rfl fun L a w1 hh => ?_
        have h24 : a.tmps[24]?.getD undef = .pointer (some ⟨w.heap.size, 3, none⟩) := by rw [← Array.getD_eq_getD_getElem?]; exact hh.dep 0 24 (by kernel_rfl) (by kernel_rfl)
        obtain ⟨⟨c0, c1, c2, c3, c4, c5⟩, -, ci⟩ := (hh.st.1.1.1).c6
        have hJ := Lib.hid hh.st
        clear hh
        go_simp
        exact ⟨_, rfl, Below.refl _ _, rfl, JN.slots hJ.out (regv.sl_ne (by decide))⟩
      · refine regv.StepOK.plain rfl fun L a w1 hh => ?_
        have h4 : a.tmps[4]?.getD undef = .int .i64 D := by rw [← Array.getD_eq_getD_getElem?]; exact hh.old 4 rfl
        have hJ := Lib.hid hh.st
        clear hh
        go_simp
        exact ⟨_, rfl, Below.refl _ _, rfl, JN.slots hJ.out (regv.sl_ne (by decide))⟩
      · refine regv.StepOK.plain rfl fun L a w1 hh => ?_
        have h25 : a.tmps[25]?.getD undef = .int .i64 kd := by rw [← Array.getD_eq_getD_getElem?]; exact hh.dep 1 25 (by kernel_rfl) (by kernel_rfl)
        have h26 : a.tmps[26]?.getD undef = .int .i64 D := by rw [← Array.getD_eq_getD_getElem?]; exact hh.dep 2 26 (by kernel_rfl) (by kernel_rfl)
        have := True.intro
        have hJ := Lib.hid hh.st
        clear hh
        go_simp
        refine (HO1.out w1).mono ?_
        rintro e w9 ⟨rfl, hb9⟩
        exact ⟨_, rfl, hb9.mono hJ.out.1.2.1, rfl, JN.slots (JN.below hJ.out hb9) (regv.sl_ne (by decide))⟩
      · refine regv.StepOK.plain rfl fun L a w1 hh => ?_
        have h1 : a.tmps[1]?.getD undef = .pointer (some ⟨w.heap.size, 0, none⟩) := by rw [← Array.getD_eq_getD_getElem?]; exact hh.old 1 rfl
        have hJ := Lib.hid hh.st
        clear hh
        go_simp
        exact ⟨_, rfl, Below.refl _ _, rfl, JN.slots hJ.out (regv.sl_ne (by decide))⟩
      · refine regv.StepOK.plain rfl fun L a w1 hh => ?_
        have h28 : a.tmps[28]?.getD undef = .pointer (some ⟨w.heap.size, 1, none⟩) := by rw [← Array.getD_eq_getD_getElem?]; exact hh.dep 4 28 (by kernel_rfl) (by kernel_rfl)
        obtain ⟨⟨c0, c1, c2, c3, c4, c5⟩, -, ci⟩ := (hh.st.1.1.1).c6
        have hJ := Lib.hid hh.st
        clear hh
        go_simp
        exact ⟨_, rfl, Below.refl _ _, rfl, JN.slots hJ.out (regv.sl_ne (by decide))⟩
      · refine regv.StepOK.plain rfl fun L a w1 hh => ?_
        have h29 : a.tmps[29]?.getD undef = .int .i64 kb := by rw [← Array.getD_eq_getD_getElem?]; exact hh.dep 5 29 (by kernel_rfl) (by kernel_rfl)
        have hJ := Lib.hid hh.st
        clear hh
        go_simp
        exact ⟨_, rfl, Below.refl _ _, rfl, JN.slots hJ.out (regv.sl_ne (by decide))⟩
      · refine regv.StepOK.plain rfl fun L a w1 hh => ?_
        have h4 : a.tmps[4]?.getD undef = .int .i64 D := by rw [← Array.getD_eq_getD_getElem?]; exact hh.old 4 rfl
        have hJ := Lib.hid hh.st
        clear hh
        go_simp
        exact ⟨_, rfl, Below.refl _ _, rfl, JN.slots hJ.out (regv.sl_ne (by decide))⟩
      · refine regv.StepOK.plain rfl fun L a w1 hh => ?_
        have h30 : a.tmps[30]?.getD undef = .int .i64 (-kb) := by rw [← Array.getD_eq_getD_getElem?]; exact hh.dep 6 30 (by kernel_rfl) (by kernel_rfl)
        have h31 : a.tmps[31]?.getD undef = .int .i64 D := by rw [← Array.getD_eq_getD_getElem?]; exact hh.dep 7 31 (by kernel_rfl) (by kernel_rfl)
        have := True.intro
        have hJ := Lib.hid hh.st
        clear hh
        go_simp
        refine (HO2.out w1).mono ?_
        rintro e w9 ⟨rfl, hb9⟩
        exact ⟨_, rfl, hb9.mono hJ.out.1.2.1, rfl, JN.slots (JN.below hJ.out hb9) (regv.sl_ne (by decide))⟩
      · refine regv.StepOK.plain rfl fun L a w1 hh => ?_
        have h1 : a.tmps[1]?.getD undef = .pointer (some ⟨w.heap.size, 0, none⟩) := by rw [← Array.getD_eq_getD_getElem?]; exact hh.old 1 rfl
        have hJ := Lib.hid hh.st
        clear hh
        go_simp
        exact ⟨_, rfl, Below.refl _ _, rfl, JN.slots hJ.out (regv.sl_ne (by decide))⟩
      · refine regv.StepOK.plain rfl fun L a w1 hh => ?_
        have h33 : a.tmps[33]?.getD undef = .pointer (some ⟨w.heap.size, 2, none⟩) := by rw [← Array.getD_eq_getD_getElem?]; exact hh.dep 9 33 (by kernel_rfl) (by kernel_rfl)
        obtain ⟨⟨c0, c1, c2, c3, c4, c5⟩, -, ci⟩ := (hh.st.1.1.1).c6
        have hJ := Lib.hid hh.st
        clear hh
        go_simp
        exact ⟨_, rfl, Below.refl _ _, rfl, JN.slots hJ.out (regv.sl_ne (by decide))⟩
      · refine regv.StepOK.plain rfl fun L a w1 hh => ?_
        have h34 : a.tmps[34]?.getD undef = .int .i64 kc := by rw [← Array.getD_eq_getD_getElem?]; exact hh.dep 10 34 (by kernel_rfl) (by kernel_rfl)
        have hJ := Lib.hid hh.st
        clear hh
        go_simp
        exact ⟨_, rfl, Below.refl _ _, rfl, JN.slots hJ.out (regv.sl_ne (by decide))⟩
      · refine regv.StepOK.plain rfl fun L a w1 hh => ?_
        have h4 : a.tmps[4]?.getD undef = .int .i64 D := by rw [← Array.getD_eq_getD_getElem?]; exact hh.old 4 rfl
        have hJ := Lib.hid hh.st
        clear hh
        go_simp
        exact ⟨_, rfl, Below.refl _ _, rfl, JN.slots hJ.out (regv.sl_ne (by decide))⟩
      · refine regv.StepOK.plain rfl fun L a w1 hh => ?_
        have h35 : a.tmps[35]?.getD undef = .int .i64 (-kc) := by rw [← Array.getD_eq_getD_getElem?]; exact hh.dep 11 35 (by kernel_rfl) (by kernel_rfl)
        have h36 : a.tmps[36]?.getD undef = .int .i64 D := by rw [← Array.getD_eq_getD_getElem?]; exact hh.dep 12 36 (by kernel_rfl) (by kernel_rfl)
        have := True.intro
        have hJ := Lib.hid hh.st
        clear hh
        go_simp
        refine (HO3.out w1).mono ?_
        rintro e w9 ⟨rfl, hb9⟩
        exact ⟨_, rfl, hb9.mono hJ.out.1.2.1, rfl, JN.slots (JN.below hJ.out hb9) (regv.sl_ne (by decide))⟩
      · refine regv.StepOK.plain rfl fun L a w1 hh => ?_
        have h1 : a.tmps[1]?.getD undef = .pointer (some ⟨w.heap.size, 0, none⟩) := by rw [← Array.getD_eq_getD_getElem?]; exact hh.old 1 rfl
        have hJ := Lib.hid hh.st
        clear hh
        go_simp
        exact ⟨_, rfl, Below.refl _ _, rfl, JN.slots hJ.out (regv.sl_ne (by decide))⟩
      · refine regv.StepOK.plain rfl fun L a w1 hh => ?_
        have h38 : a.tmps[38]?.getD undef = .pointer (some ⟨w.heap.size, 0, none⟩) := by rw [← Array.getD_eq_getD_getElem?]; exact hh.dep 14 38 (by kernel_rfl) (by kernel_rfl)
        obtain ⟨⟨c0, c1, c2, c3, c4, c5⟩, -, ci⟩ := (hh.st.1.1.1).c6
        have hJ := Lib.hid hh.st
        clear hh
        go_simp
        exact ⟨_, rfl, Below.refl _ _, rfl, JN.slots hJ.out (regv.sl_ne (by decide))⟩
      · refine regv.StepOK.plain rfl fun L a w1 hh => ?_
        have h4 : a.tmps[4]?.getD undef = .int .i64 D := by rw [← Array.getD_eq_getD_getElem?]; exact hh.old 4 rfl
        have hJ := Lib.hid hh.st
        clear hh
        go_simp
        exact ⟨_, rfl, Below.refl _ _, rfl, JN.slots hJ.out (regv.sl_ne (by decide))⟩
      · refine regv.StepOK.plain rfl fun L a w1 hh => ?_
        have h39 : a.tmps[39]?.getD undef = .int .i64 ka := by rw [← Array.getD_eq_getD_getElem?]; exact hh.dep 15 39 (by kernel_rfl) (by kernel_rfl)
        have h40 : a.tmps[40]?.getD undef = .int .i64 D := by rw [← Array.getD_eq_getD_getElem?]; exact hh.dep 16 40 (by kernel_rfl) (by kernel_rfl)
        have := True.intro
        have hJ := Lib.hid hh.st
        clear hh
        go_simp
        refine (HO4.out w1).mono ?_
        rintro e w9 ⟨rfl, hb9⟩
        exact ⟨_, rfl, hb9.mono hJ.out.1.2.1, rfl, JN.slots (JN.below hJ.out hb9) (regv.sl_ne (by decide))⟩
      · refine regv.StepOK.plain rfl fun L a w1 hh => ?_
        have h1 : a.tmps[1]?.getD undef = .pointer (some ⟨w.heap.size, 0, none⟩) := by rw [← Array.getD_eq_getD_getElem?]; exact hh.old 1 rfl
        have hJ := Lib.hid hh.st
        clear hh
        go_simp
        exact ⟨_, rfl, Below.refl _ _, rfl, JN.slots hJ.out (regv.sl_ne (by decide))⟩
      · refine regv.StepOK.plain rfl fun L a w1 hh => ?_
        have h42 : a.tmps[42]?.getD undef = .pointer (some ⟨w.heap.size, 4, none⟩) := by rw [← Array.getD_eq_getD_getElem?]; exact hh.dep 18 42 (by kernel_rfl) (by kernel_rfl)
        obtain ⟨⟨c0, c1, c2, c3, c4, c5⟩, -, ci⟩ := (hh.st.1.1.1).c6
        have hJ := Lib.hid hh.st
        clear hh
        go_simp
        exact ⟨_, rfl, Below.refl _ _, rfl, JN.slots hJ.out (regv.sl_ne (by decide))⟩
      · refine regv.StepOK.plain rfl fun L a w1 hh => ?_
        have h1 : a.tmps[1]?.getD undef = .pointer (some ⟨w.heap.size, 0, none⟩) := by rw [← Array.getD_eq_getD_getElem?]; exact hh.old 1 rfl
        have hJ := Lib.hid hh.st
        clear hh
        go_simp
        exact ⟨_, rfl, Below.refl _ _, rfl, JN.slots hJ.out (regv.sl_ne (by decide))⟩
      · refine regv.StepOK.plain rfl fun L a w1 hh => ?_
        have h44 : a.tmps[44]?.getD undef = .pointer (some ⟨w.heap.size, 5, none⟩) := by rw [← Array.getD_eq_getD_getElem?]; exact hh.dep 20 44 (by kernel_rfl) (by kernel_rfl)
        obtain ⟨⟨c0, c1, c2, c3, c4, c5⟩, -, ci⟩ := (hh.st.1.1.1).c6
        have hJ := Lib.hid hh.st
        clear hh
        go_simp
        exact ⟨_, rfl, Below.refl _ _, rfl, JN.slots hJ.out (regv.sl_ne (by decide))⟩
      · refine regv.StepOK.plain rfl fun L a w1 hh => ?_
        have h27 : a.tmps[27]?.getD undef = .int .i64 z1 := by rw [← Array.getD_eq_getD_getElem?]; exact hh.dep 3 27 (by kernel_rfl) (by kernel_rfl)
        have h32 : a.tmps[32]?.getD undef = .int .i64 z2 := by rw [← Array.getD_eq_getD_getElem?]; exact hh.dep 8 32 (by kernel_rfl) (by kernel_rfl)
        have h37 : a.tmps[37]?.getD undef = .int .i64 z3 := by rw [← Array.getD_eq_getD_getElem?]; exact hh.dep 13 37 (by kernel_rfl) (by kernel_rfl)
        have h41 : a.tmps[41]?.getD undef = .int .i64 z4 := by rw [← Array.getD_eq_getD_getElem?]; exact hh.dep 17 41 (by kernel_rfl) (by kernel_rfl)
        have h43 : a.tmps[43]?.getD undef = .int .i64 ke := by rw [← Array.getD_eq_getD_getElem?]; exact hh.dep 19 43 (by kernel_rfl) (by kernel_rfl)
        have h45 : a.tmps[45]?.getD undef = .int .i64 kf := by rw [← Array.getD_eq_getD_getElem?]; exact hh.dep 21 45 (by kernel_rfl) (by kernel_rfl)
        have hJ := Lib.hid hh.st
        clear hh
        go_simp
        exact ⟨_, rfl, Below.refl _ _, rfl, JN.slots hJ.out (regv.sl_ne (by decide))⟩
      · refine regv.StepOK.plain rfl fun L a w1 hh => ?_
        have hJ := Lib.hid hh.st
        have hsz := Lib.hid hh.size
        have hun := Lib.hid hh.un
        clear hh
        go_simp
        exact ⟨_, rfl, (Below.refl _ _).alloc hJ.out.1.2.1 _, trivial, JN.new hJ.out hun.out (regv.sl_same (by rw [hsz.out]; simp))⟩
      · refine regv.StepOK.plain rfl fun L a w1 hh => ?_
        have h46 : a.tmps[46]?.getD undef = .agg #[.int .i64 z1, .int .i64 z2, .int .i64 z3, .int .i64 z4, .int .i64 ke, .int .i64 kf] := by rw [← Array.getD_eq_getD_getElem?]; exact hh.dep 22 46 (by kernel_rfl) (by kernel_rfl)
        obtain ⟨g, h0, hg, hB⟩ := hh.st.2.1 (hh.up 23 (by kernel_rfl))
        have h5 : a.tmps[5]?.getD undef = .pointer (some ⟨g, 0, none⟩) := by rw [← Array.getD_eq_getD_getElem?]; exact h0
        rw [hh.un] at hB
        obtain ⟨⟨c0, c1, c2, c3, c4, c5⟩, ⟨f0, f1, f2, f3, f4, f5⟩, ci⟩ := (show Blk w1 g [.int .i64 0, .int .i64 0, .int .i64 0, .int .i64 0, .int .i64 0, .int .i64 0] from hB).c6
        have hP := Lib.hid (JN.put hh.st rfl (hh.up 23 (by kernel_rfl)) hh.un h0)
        clear hh h0 hB
        go_simp
        exact ⟨hP.out.2, ⟨undef, trivial⟩, hP.out.1⟩
      intro L w2 val hL hJ hR hv
      obtain ⟨g2, e2, hg2, hB2⟩ := hJ.2.1 (hL 23 (by decide))
      rw [hL 24 (by decide)] at hB2
      have HN2 := Lib.hid (And.intro hg2 (show Blk w2 g2 [.int .i64 z1, .int .i64 z2, .int .i64 z3, .int .i64 z4, .int .i64 ke, .int .i64 kf] from hB2))
      have HK2 := Lib.hid hJ.1.1
      clear hg2 hB2
      have HR2 := Lib.hid hR
      clear hv hL hJ hR
      simp only [regs.putAll, List.map_cons, List.map_nil]
      rw [e2]
      generalize val 24 = v24
      generalize val 25 = v25
      generalize val 26 = v26
      generalize val 27 = v27
      generalize val 28 = v28
      generalize val 29 = v29
      generalize val 30 = v30
      generalize val 31 = v31
      generalize val 32 = v32
      generalize val 33 = v33
      generalize val 34 = v34
      generalize val 35 = v35
      generalize val 36 = v36
      generalize val 37 = v37
      generalize val 38 = v38
      generalize val 39 = v39
      generalize val 40 = v40
      generalize val 41 = v41
      generalize val 42 = v42
      generalize val 43 = v43
      generalize val 44 = v44
      generalize val 45 = v45
      generalize val 46 = v46
      simp only [Act.put, List.setIfInBounds_toArray, List.set_cons_zero, List.set_cons_succ]
      clear e2
      have B2 : Hid (Below w.heap.size w w2) := B1.out.trans (HR2.out.mono B1.out.size)
      have br2 : Hid (Blk w2 (w.heap.size + 1) Mp.o.cs) := HK2.out.2.1
      have HRT := Lib.hid (fun w g (hg : g = w.heap.size) => right_any _ [z1, z2, z3, z4] 4 _ (row_new' w [z1, z2, z3, z4] 2 hg) (Nat.le_refl 4) (by decide))
      have HBK4 : Hid ((RM, RE) = if allR [z1, z2, z3, z4] = true then (⟨z1, z2, z3, z4, ke, kf⟩, 0) else (Mp.o, 35)) := HBK3.out
      clear HBK3 HR2 HK2 HK1 HO1 HO2 HO3 HO4 B1
      obtain ⟨⟨n0, n1, n2, n3, n4, n5⟩, -, ni⟩ := HN2.out.2.c6
      have hgw := HN2.out.1
      generalize allR [z1, z2, z3, z4] = y at *
      go_wp2_with (fail)
      refine (HRT.out _ _ rfl).mono ?_
      rintro e3 w3 ⟨rfl, rfl⟩
      have B3 : Hid (Below w.heap.size w (w2.alloc (.cells #[.int .i64 z1, .int .i64 z2, .int .i64 z3, .int .i64 z4] 2))) := B2.out.alloc B2.out.size _
      have br3 : Hid (Blk (w2.alloc (.cells #[.int .i64 z1, .int .i64 z2, .int .i64 z3, .int .i64 z4] 2)) (w.heap.size + 1) Mp.o.cs) := br2.out.alloc _
      have bn3 : Hid (Blk (w2.alloc (.cells #[.int .i64 z1, .int .i64 z2, .int .i64 z3, .int .i64 z4] 2)) g2 [.int .i64 z1, .int .i64 z2, .int .i64 z3, .int .i64 z4, .int .i64 ke, .int .i64 kf]) := HN2.out.2.alloc _
      have ew : ∃ w4, (w2.alloc (.cells #[.int .i64 z1, .int .i64 z2, .int .i64 z3, .int .i64 z4] 2)) = w4 := ⟨_, rfl⟩
      obtain ⟨w4, ew⟩ := ew
      rw [ew] at B3 br3 bn3
      simp only [List.map_cons, List.map_nil, eI] at *
      rw [ew]
      clear ew n0 n1 n2 n3 n4 n5 ni hgw B2 br2 HN2 HRT
      obtain ⟨⟨c0, c1, c2, c3, c4, c5⟩, ⟨f0, f1, f2, f3, f4, f5⟩, ri⟩ := Blk.c6 br3.out
      cases y with
      | true =>
        have hT := HBK4.out.trans (if_pos rfl)
        injection hT with h1 h2
        subst h1; subst h2
        clear HBK4
        obtain ⟨⟨n0, n1, n2, n3, n4, n5⟩, -, ni⟩ := bn3.out.c6
        go_wp2_with (fail)
        exact o_ret (m := ⟨z1, z2, z3, z4, ke, kf⟩) rfl rfl (Blk.put6 br3.out _ _ _ _ _ _) ⟨rfl, below6 B3.out (by omega) _ _ _ _ _ _⟩
      | false =>
        have hT := HBK4.out.trans (if_neg (by decide))
        injection hT with h1 h2
        subst h1; subst h2
        clear HBK4 bn3
        go_wp2_with (fail)
        exact o_ret (m := Mp.o) rfl rfl (Blk.put6 br3.out _ _ _ _ _ _) ⟨rfl, below6 B3.out (by omega) _ _ _ _ _ _⟩
end Go.Proofs.Ytmbfkaodoankaaa
