/-
  Layer 8: the walk of AffineBacks.
-/
import Derived.Test.YtmbfkaodoankaaaAfJ
namespace Go.Proofs.Ytmbfkaodoankaaa
open Go.RowKit

theorem back_bad {m : Mp} (h : m.right = false) : m.back.2 = 11 := by
  unfold Mp.back
  rw [if_pos h]
theorem back_ok {m : Mp} (h : m.right = true) (h0 : m.back.2 = 0) : m.back.1.right = true := by
  obtain ⟨-, -, -, -, he, hf⟩ := right_bd h
  unfold Mp.back at *
  rw [if_neg (by rw [h]; decide)] at *
  by_cases hd : m.det = 0
  · rw [if_pos hd] at h0
    exact absurd h0 (by decide)
  · rw [if_neg hd] at *
    by_cases ha : allR m.bk.l4 = true
    · rw [if_pos ha] at *
      unfold Mp.right Mp.l allR
      unfold Mp.l4 allR at ha
      simp only [List.all_cons, List.all_nil, Bool.and_true, Bool.and_eq_true] at ha ⊢
      exact ⟨ha.1, ha.2.1, ha.2.2.1, ha.2.2.2, rightB_yes he.1 he.2, rightB_yes hf.1 hf.2⟩
    · rw [if_neg ha] at h0
      exact absurd h0 (by decide)
set_option maxRecDepth 100000 in
set_option maxHeartbeats 4000000 in
theorem backs_walk (m : Mp) (p : Pt) (w : World) : Calls Try.prog 5 #[m.v, p.v] w fun e w' => e = .returned (.bool true) ∧ Below w.heap.size w w' := by
  have HREF := Lib.hid (fun w => mp_ref m w)
  have HDR := Lib.hid (fun w => mp_dright m w)
  have HBK := Lib.hid (fun w => mp_back m w)
  have HINV := Lib.hid (fun w h => mp_inv m w h)
  have HBAD := Lib.hid (back_bad (m := m))
  have HOK := Lib.hid (back_ok (m := m))
  have HTK := Lib.hid (fun w h => mp_from m.back.1 p w h)
  have HFR := Lib.hid (fun w h => mp_dfrom m.back.1 p w h)
  generalize m.right = y at *
  obtain ⟨B, hB⟩ : ∃ B, m.back = B := ⟨_, rfl⟩
  rw [hB] at HBK HINV HBAD HOK HTK HFR
  clear hB
  obtain ⟨K, E⟩ := B
  simp only at HBK HINV HBAD HOK HTK HFR
  generalize hq : K.from_ p = Q at *
  clear hq
  have HBO : Hid (y = true → E = 0 → (-2147483648 ≤ p.x ∧ p.x ≤ 2147483648) → (-2147483648 ≤ p.y ∧ p.y ≤ 2147483648) → backOK K p) := fun h h0 hx hy => ⟨HOK.out h h0, hx, hy⟩
  clear HOK
  generalize backOK K p = BO at *
  obtain ⟨za, zb, zc, zd, ze, zf⟩ := K
  obtain ⟨qx, qy⟩ := Q
  obtain ⟨ka, kb, kc, kd, ke, kf⟩ := m
  obtain ⟨px, py⟩ := p
  have HPS := Lib.hid (pt_same qx qy)
  unfold Mp.v Pt.v at *
  simp only at HREF HDR HBK HINV HTK HFR HBO ⊢
  go_enter Try.func5, Try.ntmps5
  go_wp2_with (fail)
  refine (HBK.out _).mono ?_
  rintro e w1 ⟨rfl, hb⟩
  have B1 : Hid (Below w.heap.size w w1) := (((Below.refl _ _).alloc (Nat.le_refl _) _).alloc (by simp) _).trans (hb.mono (by simp; omega))
  have bm1 : Hid (Blk w1 w.heap.size [.int .i64 ka, .int .i64 kb, .int .i64 kc, .int .i64 kd, .int .i64 ke, .int .i64 kf]) := ((blk_new w [.int .i64 ka, .int .i64 kb, .int .i64 kc, .int .i64 kd, .int .i64 ke, .int .i64 kf] _).alloc _).below' hb
  have bp1 : Hid (Blk w1 (w.heap.size + 1) [.int .i64 px, .int .i64 py]) := (blk_at (w.alloc _) _ (by simp) [.int .i64 px, .int .i64 py] _).below' hb
  clear hb HBK
  have hin1 := bm1.out.inside
  have hip1 := bp1.out.inside
  obtain ⟨⟨c0, c1, c2, c3, c4, c5⟩, -, ci⟩ := bm1.out.c6
  go_wp2_with (fail)
  refine (HREF.out _).mono ?_
  rintro e w2 ⟨rfl, hb⟩
  have B2 : Hid (Below w.heap.size w w2) := (B1.out.alloc B1.out.size _).trans (hb.mono (by have := B1.out.size; simp; omega))
  have bm2 := Lib.hid ((bm1.out.alloc _).below' hb)
  have bp2 := Lib.hid ((bp1.out.alloc _).below' hb)
  have bk2 : Hid (Blk w2 w1.heap.size [.int .i64 za, .int .i64 zb, .int .i64 zc, .int .i64 zd, .int .i64 ze, .int .i64 zf]) := (blk_new w1 [.int .i64 za, .int .i64 zb, .int .i64 zc, .int .i64 zd, .int .i64 ze, .int .i64 zf] _).below' hb
  clear hb B1 bm1 bp1 hin1 hip1 c0 c1 c2 c3 c4 c5 ci
  generalize w1.heap.size = g1 at *
  go_wp2_with (fail)
  refine (HDR.out _).mono ?_
  rintro e w3 ⟨rfl, hb⟩
  have B3 := Lib.hid (B2.out.trans (hb.mono B2.out.size))
  have bm3 := Lib.hid (bm2.out.below' hb)
  have bp3 := Lib.hid (bp2.out.below' hb)
  have bk3 := Lib.hid (bk2.out.below' hb)
  clear hb B2 bm2 bp2 bk2 HDR
  cases y with
  | false =>
    obtain rfl := HBAD.out rfl
    go_wp2_with (fail)
    refine (awake_any _).mono ?_
    rintro e w4 ⟨rfl, hb⟩
    have B4 := Lib.hid (B3.out.trans (hb.mono B3.out.size))
    clear hb
    go_wp2_with (fail)
    go_ret
    exact ⟨rfl, B4.out⟩
  | true =>
    obtain ⟨⟨c0, c1, c2, c3, c4, c5⟩, -, ci⟩ := bm3.out.c6
    go_wp2_with (fail)
    refine (HREF.out _).mono ?_
    rintro e w4 ⟨rfl, hb⟩
    have B4 := Lib.hid (B3.out.trans (hb.mono B3.out.size))
    have bp4 := Lib.hid (bp3.out.below' hb)
    have bk4 := Lib.hid (bk3.out.below' hb)
    clear hb B3 bm3 bp3 bk3 HREF c0 c1 c2 c3 c4 c5 ci
    go_wp2_with (fail)
    refine (HINV.out _ trivial).mono ?_
    rintro e w5 ⟨rfl, hb⟩
    have B5 := Lib.hid (B4.out.trans (hb.mono B4.out.size))
    have bp5 := Lib.hid (bp4.out.below' hb)
    have bk5 := Lib.hid (bk4.out.below' hb)
    clear hb B4 bp4 bk4 HINV
    have hin5 := bk5.out.inside
    have tE : (E != E) = false := by simp
    obtain ⟨⟨p0, p1⟩, -, pi⟩ := bp5.out.c2
    by_cases hE : E = 0
    · have HB2 := Lib.hid (HBO.out trivial hE)
      subst hE
      clear HBO HBAD
      by_cases hx1 : px < -2147483648
      · have t0 : decide (px < -2147483648) = true := by simpa using hx1
        clear hx1
        go_wp2_with (fail)
        refine (awake_any _).mono ?_
        rintro e w6 ⟨rfl, hb⟩
        have B6 : Hid (Below w.heap.size w w6) := (B5.out.alloc B5.out.size _).trans (hb.mono (by have := B5.out.size; simp; omega))
        clear hb
        go_wp2_with (fail)
        go_ret
        exact ⟨rfl, B6.out⟩
      have t0 : decide (px < -2147483648) = false := by simpa using hx1
      by_cases hx2 : 2147483648 < px
      · have t1 : decide (2147483648 < px) = true := by simpa using hx2
        clear hx1 hx2
        go_wp2_with (fail)
        refine (awake_any _).mono ?_
        rintro e w6 ⟨rfl, hb⟩
        have B6 : Hid (Below w.heap.size w w6) := (B5.out.alloc B5.out.size _).trans (hb.mono (by have := B5.out.size; simp; omega))
        clear hb
        go_wp2_with (fail)
        go_ret
        exact ⟨rfl, B6.out⟩
      have t1 : decide (2147483648 < px) = false := by simpa using hx2
      by_cases hy1 : py < -2147483648
      · have t2 : decide (py < -2147483648) = true := by simpa using hy1
        clear hx1 hx2 hy1
        go_wp2_with (fail)
        refine (awake_any _).mono ?_
        rintro e w6 ⟨rfl, hb⟩
        have B6 : Hid (Below w.heap.size w w6) := (B5.out.alloc B5.out.size _).trans (hb.mono (by have := B5.out.size; simp; omega))
        clear hb
        go_wp2_with (fail)
        go_ret
        exact ⟨rfl, B6.out⟩
      have t2 : decide (py < -2147483648) = false := by simpa using hy1
      by_cases hy2 : 2147483648 < py
      · have t3 : decide (2147483648 < py) = true := by simpa using hy2
        clear hx1 hx2 hy1 hy2
        go_wp2_with (fail)
        refine (awake_any _).mono ?_
        rintro e w6 ⟨rfl, hb⟩
        have B6 : Hid (Below w.heap.size w w6) := (B5.out.alloc B5.out.size _).trans (hb.mono (by have := B5.out.size; simp; omega))
        clear hb
        go_wp2_with (fail)
        go_ret
        exact ⟨rfl, B6.out⟩
      have t3 : decide (2147483648 < py) = false := by simpa using hy2
      have hBO := HB2.out (by omega) (by omega)
      clear hx1 hx2 hy1 hy2 HB2
      go_wp2_with (fail)
      refine (HFR.out _ hBO).mono ?_
      rintro e w6 ⟨rfl, hb⟩
      have B6 : Hid (Below w.heap.size w w6) := (B5.out.alloc B5.out.size _).trans (hb.mono (by have := B5.out.size; simp; omega))
      have bp6 := Lib.hid ((bp5.out.alloc _).below' hb)
      have bk6 := Lib.hid ((bk5.out.alloc _).below' hb)
      clear hb B5 bp5 bk5 p0 p1 pi hin5
      obtain ⟨⟨p0, p1⟩, -, pi⟩ := bp6.out.c2
      obtain ⟨⟨c0, c1, c2, c3, c4, c5⟩, -, ci⟩ := bk6.out.c6
      have hps := HPS.out
      go_wp2_with (fail)
      refine (HTK.out _ hBO).mono ?_
      rintro e w7 ⟨rfl, hb⟩
      have B7 := Lib.hid (B6.out.trans (hb.mono B6.out.size))
      clear hb B6 c0 c1 c2 c3 c4 c5 ci p0 p1 pi
      go_wp2_with (fail)
      refine (awake_any _).mono ?_
      rintro e w8 ⟨rfl, hb⟩
      have B8 := Lib.hid (B7.out.trans (hb.mono B7.out.size))
      clear hb B7
      go_wp2_with (fail)
      go_ret
      exact ⟨rfl, B8.out⟩
    · have t0 : (E != 0) = true := by simpa using hE
      clear hE
      go_wp2_with (fail)
      refine (awake_any _).mono ?_
      rintro e w6 ⟨rfl, hb⟩
      have B6 : Hid (Below w.heap.size w w6) := (B5.out.alloc B5.out.size _).trans (hb.mono (by have := B5.out.size; simp; omega))
      clear hb
      go_wp2_with (fail)
      go_ret
      exact ⟨rfl, B6.out⟩
end Go.Proofs.Ytmbfkaodoankaaa
