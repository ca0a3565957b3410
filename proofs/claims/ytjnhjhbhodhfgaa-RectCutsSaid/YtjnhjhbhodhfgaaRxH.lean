/-
  Layer 6: RectGrows' walk.
-/
import Derived.Test.YtjnhjhbhodhfgaaRxG
namespace Go.Proofs.Ytjnhjhbhodhfgaa
open Go.RowKit

set_option maxHeartbeats 1000000 in
theorem rectGrows_no (r : Bx) (n : Int) (w : World) (h : (r.rt && nearB n) = false) : Calls Try.prog 5 #[r.v, .int .i64 n] w fun e w' => e = .returned (.bool true) ∧ Below w.heap.size w w' := by
  have HR := Lib.hid (fun w => right_any r w)
  cases hr : r.rt with
  | false =>
    rw [hr] at HR
    clear h hr
    obtain ⟨ra, rb, rc, rd⟩ := r
    unfold Bx.v at *
    simp only at HR ⊢
    go_enter Try.func5, Try.ntmps5
    go_wp2_with (fail)
    refine (HR.out _).mono ?_
    rintro e w1 ⟨rfl, hb⟩
    have B1 : Hid (Below w.heap.size w w1) := ((Below.refl _ _).alloc (Nat.le_refl _) _).trans (hb.mono (by simp; try omega))
    clear hb
    go_wp2_with (fail)
    refine (awake_any _).mono ?_
    rintro e w2 ⟨rfl, hb⟩
    have B2 : Hid (Below w.heap.size w w2) := B1.out.trans (hb.mono B1.out.size)
    clear hb
    go_wp2_with (fail)
    go_ret
    exact ⟨rfl, B2.out⟩
  | true =>
    have hs : nearB n = false := by rw [hr] at h; simpa using h
    have HN : Hid (nearL [n] = false) := by show _ = _; simp [nearL, hs]
    rw [hr] at HR
    clear h hr hs
    obtain ⟨ra, rb, rc, rd⟩ := r
    unfold Bx.v at *
    simp only at HR ⊢
    go_enter Try.func5, Try.ntmps5
    go_wp2_with (fail)
    refine (HR.out _).mono ?_
    rintro e w1 ⟨rfl, hb⟩
    have B1 : Hid (Below w.heap.size w w1) := ((Below.refl _ _).alloc (Nat.le_refl _) _).trans (hb.mono (by simp; try omega))
    clear hb
    go_wp2_with (fail)
    refine (far_any _ [n] 1 _ (row_new _ [n] 3) (Nat.le_refl 1) (by decide)).mono ?_
    rw [HN.out]
    rintro e w2 ⟨rfl, rfl⟩
    go_wp2_with (fail)
    refine (awake_any _).mono ?_
    rintro e w3 ⟨rfl, hb⟩
    have B3 : Hid (Below w.heap.size w w3) := (B1.out.alloc B1.out.size _).trans (hb.mono (by have := B1.out.size; simp; omega))
    clear hb
    go_wp2_with (fail)
    go_ret
    exact ⟨rfl, B3.out⟩
theorem rt_wide {r : Bx} (h : r.rt = true) : r.wide = true := by
  obtain ⟨⟨a1, a2⟩, ⟨b1, b2⟩, ⟨c1, c2⟩, d1, d2⟩ := Bx.rt_of h
  exact decide_eq_true ⟨⟨by omega, by omega⟩, ⟨by omega, by omega⟩, ⟨by omega, by omega⟩, by omega, by omega⟩
set_option maxRecDepth 100000 in
set_option maxHeartbeats 4000000 in
theorem rectGrows_a (ra rb rc rd n : Int) (w : World) (hr : (⟨ra, rb, rc, rd⟩ : Bx).rt = true) (hn : nearB n = true) (h : decide (rc ≤ ra) = true) : Calls Try.prog 5 #[(⟨ra, rb, rc, rd⟩ : Bx).v, .int .i64 n] w fun e w' => e = .returned (.bool true) ∧ Below w.heap.size w w' := by
  obtain ⟨n1, n2⟩ := nearB_of hn
  have HN : Hid (nearL [n] = true) := by show _ = _; simp [nearL, hn]
  have HR := Lib.hid (fun w => right_any ⟨ra, rb, rc, rd⟩ w)
  rw [hr] at HR
  have HG := Lib.hid (fun w => bx_grow ⟨ra, rb, rc, rd⟩ n w ⟨rt_wide hr, by omega, by omega⟩)
  obtain ⟨⟨a1, a2⟩, ⟨b1, b2⟩, ⟨c1, c2⟩, d1, d2⟩ := Bx.rt_of hr
  simp only at a1 a2 b1 b2 c1 c2 d1 d2
  have HE : (⟨ra, rb, rc, rd⟩ : Bx).emp = true := by
    show (decide (rc ≤ ra) || decide (rd ≤ rb)) = _
    rw [h]; rfl
  have e : Bx.grow ⟨ra, rb, rc, rd⟩ n = ⟨0, 0, 0, 0⟩ := by unfold Bx.grow; rw [if_pos HE]; rfl
  rw [e] at HG
  clear e HE a1 a2 b1 b2 c1 c2 d1 d2 n1 n2 hn hr
  unfold Bx.v at *
  simp only at HR HG ⊢
  go_enter Try.func5, Try.ntmps5
  go_wp2_with (fail)
  refine (HR.out _).mono ?_
  rintro e w1 ⟨rfl, hb⟩
  have B1 : Hid (Below w.heap.size w w1) := ((Below.refl _ _).alloc (Nat.le_refl _) _).trans (hb.mono (by simp; try omega))
  have K1 : Hid (Blk w1 w.heap.size [.int .i64 ra, .int .i64 rb, .int .i64 rc, .int .i64 rd]) := (blk_new w [.int .i64 ra, .int .i64 rb, .int .i64 rc, .int .i64 rd] _).below hb (by simp)
  clear hb
  go_wp2_with (fail)
  refine (far_any _ [n] 1 _ (row_new _ [n] 3) (Nat.le_refl 1) (by decide)).mono ?_
  rw [HN.out]
  rintro e w2 ⟨rfl, rfl⟩
  have K2 : Hid (Blk (w1.alloc (.cells #[.int .i64 n] 3)) w.heap.size [.int .i64 ra, .int .i64 rb, .int .i64 rc, .int .i64 rd]) := K1.out.alloc _
  have B2 : Hid (Below w.heap.size w (w1.alloc (.cells #[.int .i64 n] 3))) := B1.out.alloc B1.out.size _
  obtain ⟨⟨c0, c1, c2, c3⟩, -, i0⟩ := K1.out.c4
  go_wp2_with (fail)
  refine (HG.out _).mono ?_
  rintro e w3 ⟨rfl, hb⟩
  have B3 : Hid (Below w.heap.size w (w3.alloc (.cells #[.int .i64 0, .int .i64 0, .int .i64 0, .int .i64 0] 23))) := (B2.out.trans (hb.mono B2.out.size)).alloc (Nat.le_trans B2.out.size hb.size) _
  have K3 : Hid (JBs [(w3.heap.size, [.int .i64 0, .int .i64 0, .int .i64 0, .int .i64 0]), (w.heap.size, [.int .i64 ra, .int .i64 rb, .int .i64 rc, .int .i64 rd])] (w3.alloc (.cells #[.int .i64 0, .int .i64 0, .int .i64 0, .int .i64 0] 23))) := ⟨blk_new w3 [.int .i64 0, .int .i64 0, .int .i64 0, .int .i64 0] _, (K2.out.below' hb).alloc _, trivial⟩
  have G3 : Hid (w.heap.size < w3.heap.size) := (K2.out.below' hb).inside
  clear hb c0 c1 c2 c3 i0 K1 K2 B1 B2
  go_upto_region 4 with fail
  generalize (w3.alloc (.cells #[.int .i64 0, .int .i64 0, .int .i64 0, .int .i64 0] 23)) = w4 at *
  generalize w3.heap.size = g3 at *
  obtain ⟨⟨c0, c1, c2, c3⟩, -, i0⟩ := K3.out.2.1.c4
  obtain ⟨⟨d0, d1, d2, d3⟩, -, i1⟩ := K3.out.1.c4
  go_wp2_with (fail)
  refine (awake_any _).mono ?_
  rintro e w5 ⟨rfl, hb⟩
  have B5 : Hid (Below w.heap.size w w5) := B3.out.trans (hb.mono B3.out.size)
  clear hb c0 c1 c2 c3 d0 d1 d2 d3
  go_wp2_with (fail)
  go_ret
  exact ⟨rfl, B5.out⟩
set_option maxRecDepth 100000 in
set_option maxHeartbeats 4000000 in
theorem rectGrows_b (ra rb rc rd n : Int) (w : World) (hr : (⟨ra, rb, rc, rd⟩ : Bx).rt = true) (hn : nearB n = true) (h : decide (rc ≤ ra) = false) (h2 : decide (rd ≤ rb) = true) : Calls Try.prog 5 #[(⟨ra, rb, rc, rd⟩ : Bx).v, .int .i64 n] w fun e w' => e = .returned (.bool true) ∧ Below w.heap.size w w' := by
  obtain ⟨n1, n2⟩ := nearB_of hn
  have HN : Hid (nearL [n] = true) := by show _ = _; simp [nearL, hn]
  have HR := Lib.hid (fun w => right_any ⟨ra, rb, rc, rd⟩ w)
  rw [hr] at HR
  have HG := Lib.hid (fun w => bx_grow ⟨ra, rb, rc, rd⟩ n w ⟨rt_wide hr, by omega, by omega⟩)
  obtain ⟨⟨a1, a2⟩, ⟨b1, b2⟩, ⟨c1, c2⟩, d1, d2⟩ := Bx.rt_of hr
  simp only at a1 a2 b1 b2 c1 c2 d1 d2
  have HE : (⟨ra, rb, rc, rd⟩ : Bx).emp = true := by
    show (decide (rc ≤ ra) || decide (rd ≤ rb)) = _
    rw [h, h2]; rfl
  have e : Bx.grow ⟨ra, rb, rc, rd⟩ n = ⟨0, 0, 0, 0⟩ := by unfold Bx.grow; rw [if_pos HE]; rfl
  rw [e] at HG
  clear e HE a1 a2 b1 b2 c1 c2 d1 d2 n1 n2 hn hr
  unfold Bx.v at *
  simp only at HR HG ⊢
  go_enter Try.func5, Try.ntmps5
  go_wp2_with (fail)
  refine (HR.out _).mono ?_
  rintro e w1 ⟨rfl, hb⟩
  have B1 : Hid (Below w.heap.size w w1) := ((Below.refl _ _).alloc (Nat.le_refl _) _).trans (hb.mono (by simp; try omega))
  have K1 : Hid (Blk w1 w.heap.size [.int .i64 ra, .int .i64 rb, .int .i64 rc, .int .i64 rd]) := (blk_new w [.int .i64 ra, .int .i64 rb, .int .i64 rc, .int .i64 rd] _).below hb (by simp)
  clear hb
  go_wp2_with (fail)
  refine (far_any _ [n] 1 _ (row_new _ [n] 3) (Nat.le_refl 1) (by decide)).mono ?_
  rw [HN.out]
  rintro e w2 ⟨rfl, rfl⟩
  have K2 : Hid (Blk (w1.alloc (.cells #[.int .i64 n] 3)) w.heap.size [.int .i64 ra, .int .i64 rb, .int .i64 rc, .int .i64 rd]) := K1.out.alloc _
  have B2 : Hid (Below w.heap.size w (w1.alloc (.cells #[.int .i64 n] 3))) := B1.out.alloc B1.out.size _
  obtain ⟨⟨c0, c1, c2, c3⟩, -, i0⟩ := K1.out.c4
  go_wp2_with (fail)
  refine (HG.out _).mono ?_
  rintro e w3 ⟨rfl, hb⟩
  have B3 : Hid (Below w.heap.size w (w3.alloc (.cells #[.int .i64 0, .int .i64 0, .int .i64 0, .int .i64 0] 23))) := (B2.out.trans (hb.mono B2.out.size)).alloc (Nat.le_trans B2.out.size hb.size) _
  have K3 : Hid (JBs [(w3.heap.size, [.int .i64 0, .int .i64 0, .int .i64 0, .int .i64 0]), (w.heap.size, [.int .i64 ra, .int .i64 rb, .int .i64 rc, .int .i64 rd])] (w3.alloc (.cells #[.int .i64 0, .int .i64 0, .int .i64 0, .int .i64 0] 23))) := ⟨blk_new w3 [.int .i64 0, .int .i64 0, .int .i64 0, .int .i64 0] _, (K2.out.below' hb).alloc _, trivial⟩
  have G3 : Hid (w.heap.size < w3.heap.size) := (K2.out.below' hb).inside
  clear hb c0 c1 c2 c3 i0 K1 K2 B1 B2
  go_upto_region 4 with fail
  generalize (w3.alloc (.cells #[.int .i64 0, .int .i64 0, .int .i64 0, .int .i64 0] 23)) = w4 at *
  generalize w3.heap.size = g3 at *
  obtain ⟨⟨c0, c1, c2, c3⟩, -, i0⟩ := K3.out.2.1.c4
  obtain ⟨⟨d0, d1, d2, d3⟩, -, i1⟩ := K3.out.1.c4
  go_wp2_with (fail)
  refine (awake_any _).mono ?_
  rintro e w5 ⟨rfl, hb⟩
  have B5 : Hid (Below w.heap.size w w5) := B3.out.trans (hb.mono B3.out.size)
  clear hb c0 c1 c2 c3 d0 d1 d2 d3
  go_wp2_with (fail)
  go_ret
  exact ⟨rfl, B5.out⟩
set_option maxRecDepth 100000 in
set_option maxHeartbeats 4000000 in
theorem rectGrows_wa (ra rb rc rd n : Int) (w : World) (hr : (⟨ra, rb, rc, rd⟩ : Bx).rt = true) (hn : nearB n = true) (h : decide (rc ≤ ra) = false) (h2 : decide (rd ≤ rb) = false) (hs : decide (n < 0) = true) (h3 : decide (rc + n ≤ ra - n) = true) : Calls Try.prog 5 #[(⟨ra, rb, rc, rd⟩ : Bx).v, .int .i64 n] w fun e w' => e = .returned (.bool true) ∧ Below w.heap.size w w' := by
  obtain ⟨n1, n2⟩ := nearB_of hn
  have HN : Hid (nearL [n] = true) := by show _ = _; simp [nearL, hn]
  have HR := Lib.hid (fun w => right_any ⟨ra, rb, rc, rd⟩ w)
  rw [hr] at HR
  have HG := Lib.hid (fun w => bx_grow ⟨ra, rb, rc, rd⟩ n w ⟨rt_wide hr, by omega, by omega⟩)
  obtain ⟨⟨a1, a2⟩, ⟨b1, b2⟩, ⟨c1, c2⟩, d1, d2⟩ := Bx.rt_of hr
  simp only at a1 a2 b1 b2 c1 c2 d1 d2
  have HE : (⟨ra, rb, rc, rd⟩ : Bx).emp = false := by
    show (decide (rc ≤ ra) || decide (rd ≤ rb)) = _
    rw [h, h2]; rfl
  have hW : (⟨ra - n, rb - n, rc + n, rd + n⟩ : Bx).emp = true := by
    show (decide (rc + n ≤ ra - n) || decide (rd + n ≤ rb - n)) = _
    rw [h3]; rfl
  have e : Bx.grow ⟨ra, rb, rc, rd⟩ n = ⟨0, 0, 0, 0⟩ := by unfold Bx.grow; rw [if_neg (by rw [HE]; decide), nrm_tt hW]; rfl
  rw [e] at HG
  have q1 : wrap64 (ra - n) = ra - n := IntWalk.wrap64_in _ (by omega)
  have q2 : wrap64 (rb - n) = rb - n := IntWalk.wrap64_in _ (by omega)
  have q3 : wrap64 (rc + n) = rc + n := IntWalk.wrap64_in _ (by omega)
  have q4 : wrap64 (rd + n) = rd + n := IntWalk.wrap64_in _ (by omega)
  clear e HE hW a1 a2 b1 b2 c1 c2 d1 d2 n1 n2 hn hr
  obtain ⟨pa, hpa⟩ : ∃ x, ra - n = x := ⟨_, rfl⟩
  obtain ⟨pb, hpb⟩ : ∃ x, rb - n = x := ⟨_, rfl⟩
  obtain ⟨pc, hpc⟩ : ∃ x, rc + n = x := ⟨_, rfl⟩
  obtain ⟨pd, hpd⟩ : ∃ x, rd + n = x := ⟨_, rfl⟩
  replace q1 := q1.trans hpa
  replace q2 := q2.trans hpb
  replace q3 := q3.trans hpc
  replace q4 := q4.trans hpd
  rw [hpa, hpc] at h3
  have HQ := Lib.hid (And.intro hpa (And.intro hpb (And.intro hpc hpd)))
  clear hpa hpb hpc hpd
  unfold Bx.v at *
  simp only at HR HG ⊢
  go_enter Try.func5, Try.ntmps5
  go_wp2_with (fail)
  refine (HR.out _).mono ?_
  rintro e w1 ⟨rfl, hb⟩
  have B1 : Hid (Below w.heap.size w w1) := ((Below.refl _ _).alloc (Nat.le_refl _) _).trans (hb.mono (by simp; try omega))
  have K1 : Hid (Blk w1 w.heap.size [.int .i64 ra, .int .i64 rb, .int .i64 rc, .int .i64 rd]) := (blk_new w [.int .i64 ra, .int .i64 rb, .int .i64 rc, .int .i64 rd] _).below hb (by simp)
  clear hb
  go_wp2_with (fail)
  refine (far_any _ [n] 1 _ (row_new _ [n] 3) (Nat.le_refl 1) (by decide)).mono ?_
  rw [HN.out]
  rintro e w2 ⟨rfl, rfl⟩
  have K2 : Hid (Blk (w1.alloc (.cells #[.int .i64 n] 3)) w.heap.size [.int .i64 ra, .int .i64 rb, .int .i64 rc, .int .i64 rd]) := K1.out.alloc _
  have B2 : Hid (Below w.heap.size w (w1.alloc (.cells #[.int .i64 n] 3))) := B1.out.alloc B1.out.size _
  obtain ⟨⟨c0, c1, c2, c3⟩, -, i0⟩ := K1.out.c4
  go_wp2_with (fail)
  refine (HG.out _).mono ?_
  rintro e w3 ⟨rfl, hb⟩
  have B3 : Hid (Below w.heap.size w (w3.alloc (.cells #[.int .i64 0, .int .i64 0, .int .i64 0, .int .i64 0] 23))) := (B2.out.trans (hb.mono B2.out.size)).alloc (Nat.le_trans B2.out.size hb.size) _
  have K3 : Hid (JBs [(w3.heap.size, [.int .i64 0, .int .i64 0, .int .i64 0, .int .i64 0]), (w.heap.size, [.int .i64 ra, .int .i64 rb, .int .i64 rc, .int .i64 rd])] (w3.alloc (.cells #[.int .i64 0, .int .i64 0, .int .i64 0, .int .i64 0] 23))) := ⟨blk_new w3 [.int .i64 0, .int .i64 0, .int .i64 0, .int .i64 0] _, (K2.out.below' hb).alloc _, trivial⟩
  have G3 : Hid (w.heap.size < w3.heap.size) := (K2.out.below' hb).inside
  clear hb c0 c1 c2 c3 i0 K1 K2 B1 B2
  go_upto_region 4 with fail
  generalize (w3.alloc (.cells #[.int .i64 0, .int .i64 0, .int .i64 0, .int .i64 0] 23)) = w4 at *
  generalize w3.heap.size = g3 at *
  obtain ⟨⟨c0, c1, c2, c3⟩, -, i0⟩ := K3.out.2.1.c4
  go_wp2_with (fail)
  have B5 : Hid (Below w.heap.size w (w4.alloc (.cells #[.int .i64 0, .int .i64 0, .int .i64 0, .int .i64 0] 23))) := B3.out.alloc B3.out.size _
  have K5 : Hid (JBs [(w4.heap.size, [.int .i64 0, .int .i64 0, .int .i64 0, .int .i64 0]), (g3, [.int .i64 0, .int .i64 0, .int .i64 0, .int .i64 0]), (w.heap.size, [.int .i64 ra, .int .i64 rb, .int .i64 rc, .int .i64 rd])] (w4.alloc (.cells #[.int .i64 0, .int .i64 0, .int .i64 0, .int .i64 0] 23))) := ⟨blk_new w4 [.int .i64 0, .int .i64 0, .int .i64 0, .int .i64 0] _, K3.out.alloc _⟩
  clear c0 c1 c2 c3 i0 K3 B3 h h2 h3 q1 q2 q3 q4
  generalize (w4.alloc (.cells #[.int .i64 0, .int .i64 0, .int .i64 0, .int .i64 0] 23)) = w5 at *
  generalize w4.heap.size = g4 at *
  refine regs.wp_region_put (regs.bl) (fun _ wx => JBs [(g4, [.int .i64 0, .int .i64 0, .int .i64 0, .int .i64 0]), (g3, [.int .i64 0, .int .i64 0, .int .i64 0, .int .i64 0]), (w.heap.size, [.int .i64 ra, .int .i64 rb, .int .i64 rc, .int .i64 rd])] wx) [68, 69, 70, 71, 72, 73, 74, 75, 76, 77, 78, 79, 80, 81, 82, 83, 84, 85, 86, 87, 88, 89, 90, 4] (by kernel_rfl) (by kernel_rfl) (fun _ => regs.bl_refl _) (regs.bl_trans) (fun i => (match i with
    | 0 => regs.Say.val _ (.agg #[.int .i64 0, .int .i64 0, .int .i64 0, .int .i64 0])
    | 1 => regs.Say.val _ (.agg #[.int .i64 0, .int .i64 0, .int .i64 0, .int .i64 0])
    | 2 => regs.Say.val _ (.bool true)
    | 3 => regs.Say.val _ (.bool true)
    | 4 => regs.Say.val _ (.int .i64 n)
    | 5 => regs.Say.val _ (.bool true)
    | 6 => regs.Say.val _ (.bool true)
    | 7 => regs.Say.val _ (undef)
    | 8 => regs.Say.val _ (undef)
    | 9 => regs.Say.val _ (undef)
    | 10 => regs.Say.val _ (undef)
    | 11 => regs.Say.val _ (undef)
    | 12 => regs.Say.val _ (undef)
    | 13 => regs.Say.val _ (undef)
    | 14 => regs.Say.val _ (undef)
    | 15 => regs.Say.val _ (undef)
    | 16 => regs.Say.val _ (undef)
    | 17 => regs.Say.val _ (undef)
    | 18 => regs.Say.val _ (.bool true)
    | 19 => regs.Say.val _ (.bool true)
    | 20 => regs.Say.val _ (.bool true)
    | 21 => regs.Say.val _ (.bool true)
    | 22 => regs.Say.val _ (.bool true)
    | 23 => regs.Say.val _ (.bool true)
    | _ => regs.Say.any _ : regs.Say (regs.bl)).p) (fun _ => regs.Say.mono _) (by kernel_rfl) ((Below.refl _ _).drew) (K5.out) ⟨?_, ?_, ?_, ?_, ?_, ?_, ?_, ?_, ?_, ?_, ?_, ?_, ?_, ?_, ?_, ?_, ?_, ?_, ?_, ?_, ?_, ?_, ?_, ?_, trivial⟩ ?_
  · refine regs.StepOK.plain rfl fun L a w1 hh => ?_
    have h5 : a.tmps[5]?.getD undef = .pointer (some ⟨g3, 0, none⟩) := by rw [← Array.getD_eq_getD_getElem?]; exact hh.old 5 rfl
    obtain ⟨⟨c0, c1, c2, c3⟩, -, -⟩ := (hh.st.2.1).c4
    have hJ := Lib.hid hh.st
    clear hh
    go_simp
    exact ⟨_, rfl, regs.bl_refl _, rfl, hJ.out⟩
  · refine regs.StepOK.plain rfl fun L a w1 hh => ?_
    have h6 : a.tmps[6]?.getD undef = .pointer (some ⟨g4, 0, none⟩) := by rw [← Array.getD_eq_getD_getElem?]; exact hh.old 6 rfl
    obtain ⟨⟨c0, c1, c2, c3⟩, -, -⟩ := (hh.st.1).c4
    have hJ := Lib.hid hh.st
    clear hh
    go_simp
    exact ⟨_, rfl, regs.bl_refl _, rfl, hJ.out⟩
  · refine regs.StepOK.plain rfl fun L a w1 hh => ?_
    have h68 : a.tmps[68]?.getD undef = .agg #[.int .i64 0, .int .i64 0, .int .i64 0, .int .i64 0] := by rw [← Array.getD_eq_getD_getElem?]; exact hh.dep 0 68 (by kernel_rfl) (by kernel_rfl)
    have h69 : a.tmps[69]?.getD undef = .agg #[.int .i64 0, .int .i64 0, .int .i64 0, .int .i64 0] := by rw [← Array.getD_eq_getD_getElem?]; exact hh.dep 1 69 (by kernel_rfl) (by kernel_rfl)
    have eqst := fun w => bx_eq (⟨0, 0, 0, 0⟩ : Bx) (⟨0, 0, 0, 0⟩ : Bx) w
    rw [show (decide ((⟨0, 0, 0, 0⟩ : Bx) = (⟨0, 0, 0, 0⟩ : Bx))) = true from by decide] at eqst
    unfold Bx.v at eqst
    simp only at eqst
    have hJ := Lib.hid hh.st
    clear hh
    go_simp
    exact ⟨_, rfl, regs.bl_refl _, rfl, hJ.out⟩
  · refine regs.StepOK.plain rfl fun L a w1 hh => ?_
    have h70 : a.tmps[70]?.getD undef = .bool true := by rw [← Array.getD_eq_getD_getElem?]; exact hh.dep 2 70 (by kernel_rfl) (by kernel_rfl)
    have hJ := Lib.hid hh.st
    clear hh
    go_simp
    exact ⟨_, rfl, regs.bl_refl _, rfl, hJ.out⟩
  · refine regs.StepOK.yes 3 true 71 rfl rfl (fun L a w1 hh => hh.dep 3 71 (by kernel_rfl) (by kernel_rfl)) fun L a w1 hh => ?_
    have h1 : a.tmps[1]?.getD undef = .int .i64 n := by rw [← Array.getD_eq_getD_getElem?]; exact hh.old 1 rfl
    have hJ := Lib.hid hh.st
    clear hh
    go_simp
    exact ⟨_, rfl, regs.bl_refl _, rfl, hJ.out⟩
  · refine regs.StepOK.yes 3 true 71 rfl rfl (fun L a w1 hh => hh.dep 3 71 (by kernel_rfl) (by kernel_rfl)) fun L a w1 hh => ?_
    have h72 : a.tmps[72]?.getD undef = .int .i64 n := by rw [← Array.getD_eq_getD_getElem?]; exact hh.dep 4 72 (by kernel_rfl) (by kernel_rfl)
    have hJ := Lib.hid hh.st
    clear hh
    go_simp
    exact ⟨_, rfl, regs.bl_refl _, rfl, hJ.out⟩
  · refine regs.StepOK.yes 3 true 71 rfl rfl (fun L a w1 hh => hh.dep 3 71 (by kernel_rfl) (by kernel_rfl)) fun L a w1 hh => ?_
    have h73 : a.tmps[73]?.getD undef = .bool true := by rw [← Array.getD_eq_getD_getElem?]; exact hh.dep 5 73 (by kernel_rfl) (by kernel_rfl)
    have hJ := Lib.hid hh.st
    clear hh
    go_simp
    exact ⟨_, rfl, regs.bl_refl _, rfl, hJ.out⟩
  · refine regs.StepOK.no 6 false 74 rfl rfl (fun L a w1 hh => ?_) fun L a w1 hh => ⟨rfl, hh.st⟩
    exact hh.dep 6 74 (by kernel_rfl) (by kernel_rfl)
  · refine regs.StepOK.no 6 false 74 rfl rfl (fun L a w1 hh => ?_) fun L a w1 hh => ⟨rfl, hh.st⟩
    exact hh.dep 6 74 (by kernel_rfl) (by kernel_rfl)
  · refine regs.StepOK.no 6 false 74 rfl rfl (fun L a w1 hh => ?_) fun L a w1 hh => ⟨rfl, hh.st⟩
    exact hh.dep 6 74 (by kernel_rfl) (by kernel_rfl)
  · refine regs.StepOK.no 6 false 74 rfl rfl (fun L a w1 hh => ?_) fun L a w1 hh => ⟨rfl, hh.st⟩
    exact hh.dep 6 74 (by kernel_rfl) (by kernel_rfl)
  · refine regs.StepOK.out_ 10 true 78 rfl rfl (fun L a w1 hh => ?_) fun L a w1 hh => ⟨rfl, hh.st⟩
    exact hh.dep 10 78 (by kernel_rfl) (by kernel_rfl)
  · refine regs.StepOK.out_ 10 true 78 rfl rfl (fun L a w1 hh => ?_) fun L a w1 hh => ⟨rfl, hh.st⟩
    exact hh.dep 10 78 (by kernel_rfl) (by kernel_rfl)
  · refine regs.StepOK.out_ 10 true 78 rfl rfl (fun L a w1 hh => ?_) fun L a w1 hh => ⟨rfl, hh.st⟩
    exact hh.dep 10 78 (by kernel_rfl) (by kernel_rfl)
  · refine regs.StepOK.out_ 10 true 78 rfl rfl (fun L a w1 hh => ?_) fun L a w1 hh => ⟨rfl, hh.st⟩
    exact hh.dep 10 78 (by kernel_rfl) (by kernel_rfl)
  · refine regs.StepOK.out_ 10 true 78 rfl rfl (fun L a w1 hh => ?_) fun L a w1 hh => ⟨rfl, hh.st⟩
    exact hh.dep 10 78 (by kernel_rfl) (by kernel_rfl)
  · refine regs.StepOK.out_ 10 true 78 rfl rfl (fun L a w1 hh => ?_) fun L a w1 hh => ⟨rfl, hh.st⟩
    exact hh.dep 10 78 (by kernel_rfl) (by kernel_rfl)
  · refine regs.StepOK.no 6 false 74 rfl rfl (fun L a w1 hh => ?_) fun L a w1 hh => ⟨rfl, hh.st⟩
    exact hh.dep 6 74 (by kernel_rfl) (by kernel_rfl)
  · refine regs.StepOK.yes 3 true 71 rfl rfl (fun L a w1 hh => hh.dep 3 71 (by kernel_rfl) (by kernel_rfl)) fun L a w1 hh => ?_
    have h74 : a.tmps[74]?.getD undef = .bool true := by rw [← Array.getD_eq_getD_getElem?]; exact hh.dep 6 74 (by kernel_rfl) (by kernel_rfl)
    have hJ := Lib.hid hh.st
    clear hh
    go_simp
    exact ⟨_, rfl, regs.bl_refl _, rfl, hJ.out⟩
  · refine regs.StepOK.plain rfl fun L a w1 hh => ?_
    have h71 : a.tmps[71]?.getD undef = .bool true := by rw [← Array.getD_eq_getD_getElem?]; exact hh.dep 3 71 (by kernel_rfl) (by kernel_rfl)
    have h86 : a.tmps[86]?.getD undef = .bool true := by rw [← Array.getD_eq_getD_getElem?]; exact hh.dep 18 86 (by kernel_rfl) (by kernel_rfl)
    have hJ := Lib.hid hh.st
    clear hh
    go_simp
    exact ⟨_, rfl, regs.bl_refl _, rfl, hJ.out⟩
  · refine regs.StepOK.plain rfl fun L a w1 hh => ?_
    have h87 : a.tmps[87]?.getD undef = .bool true := by rw [← Array.getD_eq_getD_getElem?]; exact hh.dep 19 87 (by kernel_rfl) (by kernel_rfl)
    have hJ := Lib.hid hh.st
    clear hh
    go_simp
    exact ⟨_, rfl, regs.bl_refl _, rfl, hJ.out⟩
  · refine regs.StepOK.yes 20 true 88 rfl rfl (fun L a w1 hh => hh.dep 20 88 (by kernel_rfl) (by kernel_rfl)) fun L a w1 hh => ?_
    have := True.intro
    have hJ := Lib.hid hh.st
    clear hh
    go_simp
    refine (awake_any w1).mono ?_
    rintro e w9 ⟨rfl, hb9⟩
    exact ⟨_, rfl, hb9, rfl, JBs.below hJ.out hb9⟩
  · refine regs.StepOK.plain rfl fun L a w1 hh => ?_
    have h88 : a.tmps[88]?.getD undef = .bool true := by rw [← Array.getD_eq_getD_getElem?]; exact hh.dep 20 88 (by kernel_rfl) (by kernel_rfl)
    have h89 : a.tmps[89]?.getD undef = .bool true := by rw [← Array.getD_eq_getD_getElem?]; exact hh.dep 21 89 (by kernel_rfl) (by kernel_rfl)
    have hJ := Lib.hid hh.st
    clear hh
    go_simp
    exact ⟨_, rfl, regs.bl_refl _, rfl, hJ.out⟩
  · refine regs.StepOK.plain rfl fun L a w1 hh => ?_
    have h90 : a.tmps[90]?.getD undef = .bool true := by rw [← Array.getD_eq_getD_getElem?]; exact hh.dep 22 90 (by kernel_rfl) (by kernel_rfl)
    have hJ := Lib.hid hh.st
    clear hh
    go_simp
    exact ⟨_, rfl, regs.bl_refl _, rfl, hJ.out⟩
  intro L w6 val hL hJ hR hv
  have h90 : val 90 = .bool true := hv 22 90 (by kernel_rfl)
  have h4 : val 4 = .bool true := hv 23 4 (by kernel_rfl)
  have HJ6 := Lib.hid hJ
  have HR6 := Lib.hid hR
  clear hv hL hJ hR
  simp only [regs.putAll, List.map_cons, List.map_nil]
  rw [h90, h4]
  generalize val 68 = v68
  generalize val 69 = v69
  generalize val 70 = v70
  generalize val 71 = v71
  generalize val 72 = v72
  generalize val 73 = v73
  generalize val 74 = v74
  generalize val 75 = v75
  generalize val 76 = v76
  generalize val 77 = v77
  generalize val 78 = v78
  generalize val 79 = v79
  generalize val 80 = v80
  generalize val 81 = v81
  generalize val 82 = v82
  generalize val 83 = v83
  generalize val 84 = v84
  generalize val 85 = v85
  generalize val 86 = v86
  generalize val 87 = v87
  generalize val 88 = v88
  generalize val 89 = v89
  simp only [Act.put, List.setIfInBounds_toArray, List.set_cons_zero, List.set_cons_succ]
  clear h90 h4
  go_wp2_with (fail)
  go_ret
  exact ⟨rfl, B5.out.trans (HR6.out.mono B5.out.size)⟩
set_option maxRecDepth 100000 in
set_option maxHeartbeats 4000000 in
theorem rectGrows_wb (ra rb rc rd n : Int) (w : World) (hr : (⟨ra, rb, rc, rd⟩ : Bx).rt = true) (hn : nearB n = true) (h : decide (rc ≤ ra) = false) (h2 : decide (rd ≤ rb) = false) (hs : decide (n < 0) = true) (h3 : decide (rc + n ≤ ra - n) = false) (h4 : decide (rd + n ≤ rb - n) = true) : Calls Try.prog 5 #[(⟨ra, rb, rc, rd⟩ : Bx).v, .int .i64 n] w fun e w' => e = .returned (.bool true) ∧ Below w.heap.size w w' := by
  obtain ⟨n1, n2⟩ := nearB_of hn
  have HN : Hid (nearL [n] = true) := by show _ = _; simp [nearL, hn]
  have HR := Lib.hid (fun w => right_any ⟨ra, rb, rc, rd⟩ w)
  rw [hr] at HR
  have HG := Lib.hid (fun w => bx_grow ⟨ra, rb, rc, rd⟩ n w ⟨rt_wide hr, by omega, by omega⟩)
  obtain ⟨⟨a1, a2⟩, ⟨b1, b2⟩, ⟨c1, c2⟩, d1, d2⟩ := Bx.rt_of hr
  simp only at a1 a2 b1 b2 c1 c2 d1 d2
  have HE : (⟨ra, rb, rc, rd⟩ : Bx).emp = false := by
    show (decide (rc ≤ ra) || decide (rd ≤ rb)) = _
    rw [h, h2]; rfl
  have hW : (⟨ra - n, rb - n, rc + n, rd + n⟩ : Bx).emp = true := by
    show (decide (rc + n ≤ ra - n) || decide (rd + n ≤ rb - n)) = _
    rw [h3, h4]; rfl
  have e : Bx.grow ⟨ra, rb, rc, rd⟩ n = ⟨0, 0, 0, 0⟩ := by unfold Bx.grow; rw [if_neg (by rw [HE]; decide), nrm_tt hW]; rfl
  rw [e] at HG
  have q1 : wrap64 (ra - n) = ra - n := IntWalk.wrap64_in _ (by omega)
  have q2 : wrap64 (rb - n) = rb - n := IntWalk.wrap64_in _ (by omega)
  have q3 : wrap64 (rc + n) = rc + n := IntWalk.wrap64_in _ (by omega)
  have q4 : wrap64 (rd + n) = rd + n := IntWalk.wrap64_in _ (by omega)
  clear e HE hW a1 a2 b1 b2 c1 c2 d1 d2 n1 n2 hn hr
  obtain ⟨pa, hpa⟩ : ∃ x, ra - n = x := ⟨_, rfl⟩
  obtain ⟨pb, hpb⟩ : ∃ x, rb - n = x := ⟨_, rfl⟩
  obtain ⟨pc, hpc⟩ : ∃ x, rc + n = x := ⟨_, rfl⟩
  obtain ⟨pd, hpd⟩ : ∃ x, rd + n = x := ⟨_, rfl⟩
  replace q1 := q1.trans hpa
  replace q2 := q2.trans hpb
  replace q3 := q3.trans hpc
  replace q4 := q4.trans hpd
  rw [hpa, hpc] at h3
  rw [hpb, hpd] at h4
  have HQ := Lib.hid (And.intro hpa (And.intro hpb (And.intro hpc hpd)))
  clear hpa hpb hpc hpd
  unfold Bx.v at *
  simp only at HR HG ⊢
  go_enter Try.func5, Try.ntmps5
  go_wp2_with (fail)
  refine (HR.out _).mono ?_
  rintro e w1 ⟨rfl, hb⟩
  have B1 : Hid (Below w.heap.size w w1) := ((Below.refl _ _).alloc (Nat.le_refl _) _).trans (hb.mono (by simp; try omega))
  have K1 : Hid (Blk w1 w.heap.size [.int .i64 ra, .int .i64 rb, .int .i64 rc, .int .i64 rd]) := (blk_new w [.int .i64 ra, .int .i64 rb, .int .i64 rc, .int .i64 rd] _).below hb (by simp)
  clear hb
  go_wp2_with (fail)
  refine (far_any _ [n] 1 _ (row_new _ [n] 3) (Nat.le_refl 1) (by decide)).mono ?_
  rw [HN.out]
  rintro e w2 ⟨rfl, rfl⟩
  have K2 : Hid (Blk (w1.alloc (.cells #[.int .i64 n] 3)) w.heap.size [.int .i64 ra, .int .i64 rb, .int .i64 rc, .int .i64 rd]) := K1.out.alloc _
  have B2 : Hid (Below w.heap.size w (w1.alloc (.cells #[.int .i64 n] 3))) := B1.out.alloc B1.out.size _
  obtain ⟨⟨c0, c1, c2, c3⟩, -, i0⟩ := K1.out.c4
  go_wp2_with (fail)
  refine (HG.out _).mono ?_
  rintro e w3 ⟨rfl, hb⟩
  have B3 : Hid (Below w.heap.size w (w3.alloc (.cells #[.int .i64 0, .int .i64 0, .int .i64 0, .int .i64 0] 23))) := (B2.out.trans (hb.mono B2.out.size)).alloc (Nat.le_trans B2.out.size hb.size) _
  have K3 : Hid (JBs [(w3.heap.size, [.int .i64 0, .int .i64 0, .int .i64 0, .int .i64 0]), (w.heap.size, [.int .i64 ra, .int .i64 rb, .int .i64 rc, .int .i64 rd])] (w3.alloc (.cells #[.int .i64 0, .int .i64 0, .int .i64 0, .int .i64 0] 23))) := ⟨blk_new w3 [.int .i64 0, .int .i64 0, .int .i64 0, .int .i64 0] _, (K2.out.below' hb).alloc _, trivial⟩
  have G3 : Hid (w.heap.size < w3.heap.size) := (K2.out.below' hb).inside
  clear hb c0 c1 c2 c3 i0 K1 K2 B1 B2
  go_upto_region 4 with fail
  generalize (w3.alloc (.cells #[.int .i64 0, .int .i64 0, .int .i64 0, .int .i64 0] 23)) = w4 at *
  generalize w3.heap.size = g3 at *
  obtain ⟨⟨c0, c1, c2, c3⟩, -, i0⟩ := K3.out.2.1.c4
  go_wp2_with (fail)
  have B5 : Hid (Below w.heap.size w (w4.alloc (.cells #[.int .i64 0, .int .i64 0, .int .i64 0, .int .i64 0] 23))) := B3.out.alloc B3.out.size _
  have K5 : Hid (JBs [(w4.heap.size, [.int .i64 0, .int .i64 0, .int .i64 0, .int .i64 0]), (g3, [.int .i64 0, .int .i64 0, .int .i64 0, .int .i64 0]), (w.heap.size, [.int .i64 ra, .int .i64 rb, .int .i64 rc, .int .i64 rd])] (w4.alloc (.cells #[.int .i64 0, .int .i64 0, .int .i64 0, .int .i64 0] 23))) := ⟨blk_new w4 [.int .i64 0, .int .i64 0, .int .i64 0, .int .i64 0] _, K3.out.alloc _⟩
  clear c0 c1 c2 c3 i0 K3 B3 h h2 h3 h4 q1 q2 q3 q4
  generalize (w4.alloc (.cells #[.int .i64 0, .int .i64 0, .int .i64 0, .int .i64 0] 23)) = w5 at *
  generalize w4.heap.size = g4 at *
  refine regs.wp_region_put (regs.bl) (fun _ wx => JBs [(g4, [.int .i64 0, .int .i64 0, .int .i64 0, .int .i64 0]), (g3, [.int .i64 0, .int .i64 0, .int .i64 0, .int .i64 0]), (w.heap.size, [.int .i64 ra, .int .i64 rb, .int .i64 rc, .int .i64 rd])] wx) [68, 69, 70, 71, 72, 73, 74, 75, 76, 77, 78, 79, 80, 81, 82, 83, 84, 85, 86, 87, 88, 89, 90, 4] (by kernel_rfl) (by kernel_rfl) (fun _ => regs.bl_refl _) (regs.bl_trans) (fun i => (match i with
    | 0 => regs.Say.val _ (.agg #[.int .i64 0, .int .i64 0, .int .i64 0, .int .i64 0])
    | 1 => regs.Say.val _ (.agg #[.int .i64 0, .int .i64 0, .int .i64 0, .int .i64 0])
    | 2 => regs.Say.val _ (.bool true)
    | 3 => regs.Say.val _ (.bool true)
    | 4 => regs.Say.val _ (.int .i64 n)
    | 5 => regs.Say.val _ (.bool true)
    | 6 => regs.Say.val _ (.bool true)
    | 7 => regs.Say.val _ (undef)
    | 8 => regs.Say.val _ (undef)
    | 9 => regs.Say.val _ (undef)
    | 10 => regs.Say.val _ (undef)
    | 11 => regs.Say.val _ (undef)
    | 12 => regs.Say.val _ (undef)
    | 13 => regs.Say.val _ (undef)
    | 14 => regs.Say.val _ (undef)
    | 15 => regs.Say.val _ (undef)
    | 16 => regs.Say.val _ (undef)
    | 17 => regs.Say.val _ (undef)
    | 18 => regs.Say.val _ (.bool true)
    | 19 => regs.Say.val _ (.bool true)
    | 20 => regs.Say.val _ (.bool true)
    | 21 => regs.Say.val _ (.bool true)
    | 22 => regs.Say.val _ (.bool true)
    | 23 => regs.Say.val _ (.bool true)
    | _ => regs.Say.any _ : regs.Say (regs.bl)).p) (fun _ => regs.Say.mono _) (by kernel_rfl) ((Below.refl _ _).drew) (K5.out) ⟨?_, ?_, ?_, ?_, ?_, ?_, ?_, ?_, ?_, ?_, ?_, ?_, ?_, ?_, ?_, ?_, ?_, ?_, ?_, ?_, ?_, ?_, ?_, ?_, trivial⟩ ?_
  · refine regs.StepOK.plain rfl fun L a w1 hh => ?_
    have h5 : a.tmps[5]?.getD undef = .pointer (some ⟨g3, 0, none⟩) := by rw [← Array.getD_eq_getD_getElem?]; exact hh.old 5 rfl
    obtain ⟨⟨c0, c1, c2, c3⟩, -, -⟩ := (hh.st.2.1).c4
    have hJ := Lib.hid hh.st
    clear hh
    go_simp
    exact ⟨_, rfl, regs.bl_refl _, rfl, hJ.out⟩
  · refine regs.StepOK.plain rfl fun L a w1 hh => ?_
    have h6 : a.tmps[6]?.getD undef = .pointer (some ⟨g4, 0, none⟩) := by rw [← Array.getD_eq_getD_getElem?]; exact hh.old 6 rfl
    obtain ⟨⟨c0, c1, c2, c3⟩, -, -⟩ := (hh.st.1).c4
    have hJ := Lib.hid hh.st
    clear hh
    go_simp
    exact ⟨_, rfl, regs.bl_refl _, rfl, hJ.out⟩
  · refine regs.StepOK.plain rfl fun L a w1 hh => ?_
    have h68 : a.tmps[68]?.getD undef = .agg #[.int .i64 0, .int .i64 0, .int .i64 0, .int .i64 0] := by rw [← Array.getD_eq_getD_getElem?]; exact hh.dep 0 68 (by kernel_rfl) (by kernel_rfl)
    have h69 : a.tmps[69]?.getD undef = .agg #[.int .i64 0, .int .i64 0, .int .i64 0, .int .i64 0] := by rw [← Array.getD_eq_getD_getElem?]; exact hh.dep 1 69 (by kernel_rfl) (by kernel_rfl)
    have eqst := fun w => bx_eq (⟨0, 0, 0, 0⟩ : Bx) (⟨0, 0, 0, 0⟩ : Bx) w
    rw [show (decide ((⟨0, 0, 0, 0⟩ : Bx) = (⟨0, 0, 0, 0⟩ : Bx))) = true from by decide] at eqst
    unfold Bx.v at eqst
    simp only at eqst
    have hJ := Lib.hid hh.st
    clear hh
    go_simp
    exact ⟨_, rfl, regs.bl_refl _, rfl, hJ.out⟩
  · refine regs.StepOK.plain rfl fun L a w1 hh => ?_
    have h70 : a.tmps[70]?.getD undef = .bool true := by rw [← Array.getD_eq_getD_getElem?]; exact hh.dep 2 70 (by kernel_rfl) (by kernel_rfl)
    have hJ := Lib.hid hh.st
    clear hh
    go_simp
    exact ⟨_, rfl, regs.bl_refl _, rfl, hJ.out⟩
  · refine regs.StepOK.yes 3 true 71 rfl rfl (fun L a w1 hh => hh.dep 3 71 (by kernel_rfl) (by kernel_rfl)) fun L a w1 hh => ?_
    have h1 : a.tmps[1]?.getD undef = .int .i64 n := by rw [← Array.getD_eq_getD_getElem?]; exact hh.old 1 rfl
    have hJ := Lib.hid hh.st
    clear hh
    go_simp
    exact ⟨_, rfl, regs.bl_refl _, rfl, hJ.out⟩
  · refine regs.StepOK.yes 3 true 71 rfl rfl (fun L a w1 hh => hh.dep 3 71 (by kernel_rfl) (by kernel_rfl)) fun L a w1 hh => ?_
    have h72 : a.tmps[72]?.getD undef = .int .i64 n := by rw [← Array.getD_eq_getD_getElem?]; exact hh.dep 4 72 (by kernel_rfl) (by kernel_rfl)
    have hJ := Lib.hid hh.st
    clear hh
    go_simp
    exact ⟨_, rfl, regs.bl_refl _, rfl, hJ.out⟩
  · refine regs.StepOK.yes 3 true 71 rfl rfl (fun L a w1 hh => hh.dep 3 71 (by kernel_rfl) (by kernel_rfl)) fun L a w1 hh => ?_
    have h73 : a.tmps[73]?.getD undef = .bool true := by rw [← Array.getD_eq_getD_getElem?]; exact hh.dep 5 73 (by kernel_rfl) (by kernel_rfl)
    have hJ := Lib.hid hh.st
    clear hh
    go_simp
    exact ⟨_, rfl, regs.bl_refl _, rfl, hJ.out⟩
  · refine regs.StepOK.no 6 false 74 rfl rfl (fun L a w1 hh => ?_) fun L a w1 hh => ⟨rfl, hh.st⟩
    exact hh.dep 6 74 (by kernel_rfl) (by kernel_rfl)
  · refine regs.StepOK.no 6 false 74 rfl rfl (fun L a w1 hh => ?_) fun L a w1 hh => ⟨rfl, hh.st⟩
    exact hh.dep 6 74 (by kernel_rfl) (by kernel_rfl)
  · refine regs.StepOK.no 6 false 74 rfl rfl (fun L a w1 hh => ?_) fun L a w1 hh => ⟨rfl, hh.st⟩
    exact hh.dep 6 74 (by kernel_rfl) (by kernel_rfl)
  · refine regs.StepOK.no 6 false 74 rfl rfl (fun L a w1 hh => ?_) fun L a w1 hh => ⟨rfl, hh.st⟩
    exact hh.dep 6 74 (by kernel_rfl) (by kernel_rfl)
  · refine regs.StepOK.out_ 10 true 78 rfl rfl (fun L a w1 hh => ?_) fun L a w1 hh => ⟨rfl, hh.st⟩
    exact hh.dep 10 78 (by kernel_rfl) (by kernel_rfl)
  · refine regs.StepOK.out_ 10 true 78 rfl rfl (fun L a w1 hh => ?_) fun L a w1 hh => ⟨rfl, hh.st⟩
    exact hh.dep 10 78 (by kernel_rfl) (by kernel_rfl)
  · refine regs.StepOK.out_ 10 true 78 rfl rfl (fun L a w1 hh => ?_) fun L a w1 hh => ⟨rfl, hh.st⟩
    exact hh.dep 10 78 (by kernel_rfl) (by kernel_rfl)
  · refine regs.StepOK.out_ 10 true 78 rfl rfl (fun L a w1 hh => ?_) fun L a w1 hh => ⟨rfl, hh.st⟩
    exact hh.dep 10 78 (by kernel_rfl) (by kernel_rfl)
  · refine regs.StepOK.out_ 10 true 78 rfl rfl (fun L a w1 hh => ?_) fun L a w1 hh => ⟨rfl, hh.st⟩
    exact hh.dep 10 78 (by kernel_rfl) (by kernel_rfl)
  · refine regs.StepOK.out_ 10 true 78 rfl rfl (fun L a w1 hh => ?_) fun L a w1 hh => ⟨rfl, hh.st⟩
    exact hh.dep 10 78 (by kernel_rfl) (by kernel_rfl)
  · refine regs.StepOK.no 6 false 74 rfl rfl (fun L a w1 hh => ?_) fun L a w1 hh => ⟨rfl, hh.st⟩
    exact hh.dep 6 74 (by kernel_rfl) (by kernel_rfl)
  · refine regs.StepOK.yes 3 true 71 rfl rfl (fun L a w1 hh => hh.dep 3 71 (by kernel_rfl) (by kernel_rfl)) fun L a w1 hh => ?_
    have h74 : a.tmps[74]?.getD undef = .bool true := by rw [← Array.getD_eq_getD_getElem?]; exact hh.dep 6 74 (by kernel_rfl) (by kernel_rfl)
    have hJ := Lib.hid hh.st
    clear hh
    go_simp
    exact ⟨_, rfl, regs.bl_refl _, rfl, hJ.out⟩
  · refine regs.StepOK.plain rfl fun L a w1 hh => ?_
    have h71 : a.tmps[71]?.getD undef = .bool true := by rw [← Array.getD_eq_getD_getElem?]; exact hh.dep 3 71 (by kernel_rfl) (by kernel_rfl)
    have h86 : a.tmps[86]?.getD undef = .bool true := by rw [← Array.getD_eq_getD_getElem?]; exact hh.dep 18 86 (by kernel_rfl) (by kernel_rfl)
    have hJ := Lib.hid hh.st
    clear hh
    go_simp
    exact ⟨_, rfl, regs.bl_refl _, rfl, hJ.out⟩
  · refine regs.StepOK.plain rfl fun L a w1 hh => ?_
    have h87 : a.tmps[87]?.getD undef = .bool true := by rw [← Array.getD_eq_getD_getElem?]; exact hh.dep 19 87 (by kernel_rfl) (by kernel_rfl)
    have hJ := Lib.hid hh.st
    clear hh
    go_simp
    exact ⟨_, rfl, regs.bl_refl _, rfl, hJ.out⟩
  · refine regs.StepOK.yes 20 true 88 rfl rfl (fun L a w1 hh => hh.dep 20 88 (by kernel_rfl) (by kernel_rfl)) fun L a w1 hh => ?_
    have := True.intro
    have hJ := Lib.hid hh.st
    clear hh
    go_simp
    refine (awake_any w1).mono ?_
    rintro e w9 ⟨rfl, hb9⟩
    exact ⟨_, rfl, hb9, rfl, JBs.below hJ.out hb9⟩
  · refine regs.StepOK.plain rfl fun L a w1 hh => ?_
    have h88 : a.tmps[88]?.getD undef = .bool true := by rw [← Array.getD_eq_getD_getElem?]; exact hh.dep 20 88 (by kernel_rfl) (by kernel_rfl)
    have h89 : a.tmps[89]?.getD undef = .bool true := by rw [← Array.getD_eq_getD_getElem?]; exact hh.dep 21 89 (by kernel_rfl) (by kernel_rfl)
    have hJ := Lib.hid hh.st
    clear hh
    go_simp
    exact ⟨_, rfl, regs.bl_refl _, rfl, hJ.out⟩
  · refine regs.StepOK.plain rfl fun L a w1 hh => ?_
    have h90 : a.tmps[90]?.getD undef = .bool true := by rw [← Array.getD_eq_getD_getElem?]; exact hh.dep 22 90 (by kernel_rfl) (by kernel_rfl)
    have hJ := Lib.hid hh.st
    clear hh
    go_simp
    exact ⟨_, rfl, regs.bl_refl _, rfl, hJ.out⟩
  intro L w6 val hL hJ hR hv
  have h90 : val 90 = .bool true := hv 22 90 (by kernel_rfl)
  have h4 : val 4 = .bool true := hv 23 4 (by kernel_rfl)
  have HJ6 := Lib.hid hJ
  have HR6 := Lib.hid hR
  clear hv hL hJ hR
  simp only [regs.putAll, List.map_cons, List.map_nil]
  rw [h90, h4]
  generalize val 68 = v68
  generalize val 69 = v69
  generalize val 70 = v70
  generalize val 71 = v71
  generalize val 72 = v72
  generalize val 73 = v73
  generalize val 74 = v74
  generalize val 75 = v75
  generalize val 76 = v76
  generalize val 77 = v77
  generalize val 78 = v78
  generalize val 79 = v79
  generalize val 80 = v80
  generalize val 81 = v81
  generalize val 82 = v82
  generalize val 83 = v83
  generalize val 84 = v84
  generalize val 85 = v85
  generalize val 86 = v86
  generalize val 87 = v87
  generalize val 88 = v88
  generalize val 89 = v89
  simp only [Act.put, List.setIfInBounds_toArray, List.set_cons_zero, List.set_cons_succ]
  clear h90 h4
  go_wp2_with (fail)
  go_ret
  exact ⟨rfl, B5.out.trans (HR6.out.mono B5.out.size)⟩
set_option maxRecDepth 100000 in
set_option maxHeartbeats 4000000 in
theorem rectGrows_nn (ra rb rc rd n : Int) (w : World) (hr : (⟨ra, rb, rc, rd⟩ : Bx).rt = true) (hn : nearB n = true) (h : decide (rc ≤ ra) = false) (h2 : decide (rd ≤ rb) = false) (hs : decide (n < 0) = true) (h3 : decide (rc + n ≤ ra - n) = false) (h4 : decide (rd + n ≤ rb - n) = false) : Calls Try.prog 5 #[(⟨ra, rb, rc, rd⟩ : Bx).v, .int .i64 n] w fun e w' => e = .returned (.bool true) ∧ Below w.heap.size w w' := by
  obtain ⟨n1, n2⟩ := nearB_of hn
  have HN : Hid (nearL [n] = true) := by show _ = _; simp [nearL, hn]
  have HR := Lib.hid (fun w => right_any ⟨ra, rb, rc, rd⟩ w)
  rw [hr] at HR
  have HG := Lib.hid (fun w => bx_grow ⟨ra, rb, rc, rd⟩ n w ⟨rt_wide hr, by omega, by omega⟩)
  obtain ⟨⟨a1, a2⟩, ⟨b1, b2⟩, ⟨c1, c2⟩, d1, d2⟩ := Bx.rt_of hr
  simp only at a1 a2 b1 b2 c1 c2 d1 d2
  have HE : (⟨ra, rb, rc, rd⟩ : Bx).emp = false := by
    show (decide (rc ≤ ra) || decide (rd ≤ rb)) = _
    rw [h, h2]; rfl
  have hW : (⟨ra - n, rb - n, rc + n, rd + n⟩ : Bx).emp = false := by
    show (decide (rc + n ≤ ra - n) || decide (rd + n ≤ rb - n)) = _
    rw [h3, h4]; rfl
  have e : Bx.grow ⟨ra, rb, rc, rd⟩ n = ⟨ra - n, rb - n, rc + n, rd + n⟩ := by unfold Bx.grow; rw [if_neg (by rw [HE]; decide), nrm_ff hW]
  rw [e] at HG
  have q1 : wrap64 (ra - n) = ra - n := IntWalk.wrap64_in _ (by omega)
  have q2 : wrap64 (rb - n) = rb - n := IntWalk.wrap64_in _ (by omega)
  have q3 : wrap64 (rc + n) = rc + n := IntWalk.wrap64_in _ (by omega)
  have q4 : wrap64 (rd + n) = rd + n := IntWalk.wrap64_in _ (by omega)
  clear e HE hW a1 a2 b1 b2 c1 c2 d1 d2 n1 n2 hn hr
  obtain ⟨pa, hpa⟩ : ∃ x, ra - n = x := ⟨_, rfl⟩
  obtain ⟨pb, hpb⟩ : ∃ x, rb - n = x := ⟨_, rfl⟩
  obtain ⟨pc, hpc⟩ : ∃ x, rc + n = x := ⟨_, rfl⟩
  obtain ⟨pd, hpd⟩ : ∃ x, rd + n = x := ⟨_, rfl⟩
  replace q1 := q1.trans hpa
  replace q2 := q2.trans hpb
  replace q3 := q3.trans hpc
  replace q4 := q4.trans hpd
  rw [hpa, hpc] at h3
  rw [hpb, hpd] at h4
  rw [hpa, hpb, hpc, hpd] at HG
  have HQ := Lib.hid (And.intro hpa (And.intro hpb (And.intro hpc hpd)))
  clear hpa hpb hpc hpd
  unfold Bx.v at *
  simp only at HR HG ⊢
  go_enter Try.func5, Try.ntmps5
  go_wp2_with (fail)
  refine (HR.out _).mono ?_
  rintro e w1 ⟨rfl, hb⟩
  have B1 : Hid (Below w.heap.size w w1) := ((Below.refl _ _).alloc (Nat.le_refl _) _).trans (hb.mono (by simp; try omega))
  have K1 : Hid (Blk w1 w.heap.size [.int .i64 ra, .int .i64 rb, .int .i64 rc, .int .i64 rd]) := (blk_new w [.int .i64 ra, .int .i64 rb, .int .i64 rc, .int .i64 rd] _).below hb (by simp)
  clear hb
  go_wp2_with (fail)
  refine (far_any _ [n] 1 _ (row_new _ [n] 3) (Nat.le_refl 1) (by decide)).mono ?_
  rw [HN.out]
  rintro e w2 ⟨rfl, rfl⟩
  have K2 : Hid (Blk (w1.alloc (.cells #[.int .i64 n] 3)) w.heap.size [.int .i64 ra, .int .i64 rb, .int .i64 rc, .int .i64 rd]) := K1.out.alloc _
  have B2 : Hid (Below w.heap.size w (w1.alloc (.cells #[.int .i64 n] 3))) := B1.out.alloc B1.out.size _
  obtain ⟨⟨c0, c1, c2, c3⟩, -, i0⟩ := K1.out.c4
  go_wp2_with (fail)
  refine (HG.out _).mono ?_
  rintro e w3 ⟨rfl, hb⟩
  have B3 : Hid (Below w.heap.size w (w3.alloc (.cells #[.int .i64 pa, .int .i64 pb, .int .i64 pc, .int .i64 pd] 23))) := (B2.out.trans (hb.mono B2.out.size)).alloc (Nat.le_trans B2.out.size hb.size) _
  have K3 : Hid (JBs [(w3.heap.size, [.int .i64 pa, .int .i64 pb, .int .i64 pc, .int .i64 pd]), (w.heap.size, [.int .i64 ra, .int .i64 rb, .int .i64 rc, .int .i64 rd])] (w3.alloc (.cells #[.int .i64 pa, .int .i64 pb, .int .i64 pc, .int .i64 pd] 23))) := ⟨blk_new w3 [.int .i64 pa, .int .i64 pb, .int .i64 pc, .int .i64 pd] _, (K2.out.below' hb).alloc _, trivial⟩
  have G3 : Hid (w.heap.size < w3.heap.size) := (K2.out.below' hb).inside
  clear hb c0 c1 c2 c3 i0 K1 K2 B1 B2
  go_upto_region 4 with fail
  generalize (w3.alloc (.cells #[.int .i64 pa, .int .i64 pb, .int .i64 pc, .int .i64 pd] 23)) = w4 at *
  generalize w3.heap.size = g3 at *
  obtain ⟨⟨c0, c1, c2, c3⟩, -, i0⟩ := K3.out.2.1.c4
  go_wp2_with (fail)
  have B5 : Hid (Below w.heap.size w (w4.alloc (.cells #[.int .i64 pa, .int .i64 pb, .int .i64 pc, .int .i64 pd] 23))) := B3.out.alloc B3.out.size _
  have K5 : Hid (JBs [(w4.heap.size, [.int .i64 pa, .int .i64 pb, .int .i64 pc, .int .i64 pd]), (g3, [.int .i64 pa, .int .i64 pb, .int .i64 pc, .int .i64 pd]), (w.heap.size, [.int .i64 ra, .int .i64 rb, .int .i64 rc, .int .i64 rd])] (w4.alloc (.cells #[.int .i64 pa, .int .i64 pb, .int .i64 pc, .int .i64 pd] 23))) := ⟨blk_new w4 [.int .i64 pa, .int .i64 pb, .int .i64 pc, .int .i64 pd] _, K3.out.alloc _⟩
  clear c0 c1 c2 c3 i0 K3 B3 h h2 h3 h4 q1 q2 q3 q4
  generalize (w4.alloc (.cells #[.int .i64 pa, .int .i64 pb, .int .i64 pc, .int .i64 pd] 23)) = w5 at *
  generalize w4.heap.size = g4 at *
  refine regs.wp_region_put (regs.bl) (fun _ wx => JBs [(g4, [.int .i64 pa, .int .i64 pb, .int .i64 pc, .int .i64 pd]), (g3, [.int .i64 pa, .int .i64 pb, .int .i64 pc, .int .i64 pd]), (w.heap.size, [.int .i64 ra, .int .i64 rb, .int .i64 rc, .int .i64 rd])] wx) [68, 69, 70, 71, 72, 73, 74, 75, 76, 77, 78, 79, 80, 81, 82, 83, 84, 85, 86, 87, 88, 89, 90, 4] (by kernel_rfl) (by kernel_rfl) (fun _ => regs.bl_refl _) (regs.bl_trans) (fun i => (match i with
    | 0 => regs.Say.val _ (.agg #[.int .i64 pa, .int .i64 pb, .int .i64 pc, .int .i64 pd])
    | 1 => regs.Say.val _ (.agg #[.int .i64 pa, .int .i64 pb, .int .i64 pc, .int .i64 pd])
    | 2 => regs.Say.val _ (.bool true)
    | 3 => regs.Say.val _ (.bool true)
    | 4 => regs.Say.val _ (.int .i64 n)
    | 5 => regs.Say.val _ (.bool true)
    | 6 => regs.Say.val _ (.bool true)
    | 7 => regs.Say.val _ (undef)
    | 8 => regs.Say.val _ (undef)
    | 9 => regs.Say.val _ (undef)
    | 10 => regs.Say.val _ (undef)
    | 11 => regs.Say.val _ (undef)
    | 12 => regs.Say.val _ (undef)
    | 13 => regs.Say.val _ (undef)
    | 14 => regs.Say.val _ (undef)
    | 15 => regs.Say.val _ (undef)
    | 16 => regs.Say.val _ (undef)
    | 17 => regs.Say.val _ (undef)
    | 18 => regs.Say.val _ (.bool true)
    | 19 => regs.Say.val _ (.bool true)
    | 20 => regs.Say.val _ (.bool true)
    | 21 => regs.Say.val _ (.bool true)
    | 22 => regs.Say.val _ (.bool true)
    | 23 => regs.Say.val _ (.bool true)
    | _ => regs.Say.any _ : regs.Say (regs.bl)).p) (fun _ => regs.Say.mono _) (by kernel_rfl) ((Below.refl _ _).drew) (K5.out) ⟨?_, ?_, ?_, ?_, ?_, ?_, ?_, ?_, ?_, ?_, ?_, ?_, ?_, ?_, ?_, ?_, ?_, ?_, ?_, ?_, ?_, ?_, ?_, ?_, trivial⟩ ?_
  · refine regs.StepOK.plain rfl fun L a w1 hh => ?_
    have h5 : a.tmps[5]?.getD undef = .pointer (some ⟨g3, 0, none⟩) := by rw [← Array.getD_eq_getD_getElem?]; exact hh.old 5 rfl
    obtain ⟨⟨c0, c1, c2, c3⟩, -, -⟩ := (hh.st.2.1).c4
    have hJ := Lib.hid hh.st
    clear hh
    go_simp
    exact ⟨_, rfl, regs.bl_refl _, rfl, hJ.out⟩
  · refine regs.StepOK.plain rfl fun L a w1 hh => ?_
    have h6 : a.tmps[6]?.getD undef = .pointer (some ⟨g4, 0, none⟩) := by rw [← Array.getD_eq_getD_getElem?]; exact hh.old 6 rfl
    obtain ⟨⟨c0, c1, c2, c3⟩, -, -⟩ := (hh.st.1).c4
    have hJ := Lib.hid hh.st
    clear hh
    go_simp
    exact ⟨_, rfl, regs.bl_refl _, rfl, hJ.out⟩
  · refine regs.StepOK.plain rfl fun L a w1 hh => ?_
    have h68 : a.tmps[68]?.getD undef = .agg #[.int .i64 pa, .int .i64 pb, .int .i64 pc, .int .i64 pd] := by rw [← Array.getD_eq_getD_getElem?]; exact hh.dep 0 68 (by kernel_rfl) (by kernel_rfl)
    have h69 : a.tmps[69]?.getD undef = .agg #[.int .i64 pa, .int .i64 pb, .int .i64 pc, .int .i64 pd] := by rw [← Array.getD_eq_getD_getElem?]; exact hh.dep 1 69 (by kernel_rfl) (by kernel_rfl)
    have eqst := fun w => bx_eq (⟨pa, pb, pc, pd⟩ : Bx) (⟨pa, pb, pc, pd⟩ : Bx) w
    rw [show (decide ((⟨pa, pb, pc, pd⟩ : Bx) = (⟨pa, pb, pc, pd⟩ : Bx))) = true from by simp] at eqst
    unfold Bx.v at eqst
    simp only at eqst
    have hJ := Lib.hid hh.st
    clear hh
    go_simp
    exact ⟨_, rfl, regs.bl_refl _, rfl, hJ.out⟩
  · refine regs.StepOK.plain rfl fun L a w1 hh => ?_
    have h70 : a.tmps[70]?.getD undef = .bool true := by rw [← Array.getD_eq_getD_getElem?]; exact hh.dep 2 70 (by kernel_rfl) (by kernel_rfl)
    have hJ := Lib.hid hh.st
    clear hh
    go_simp
    exact ⟨_, rfl, regs.bl_refl _, rfl, hJ.out⟩
  · refine regs.StepOK.yes 3 true 71 rfl rfl (fun L a w1 hh => hh.dep 3 71 (by kernel_rfl) (by kernel_rfl)) fun L a w1 hh => ?_
    have h1 : a.tmps[1]?.getD undef = .int .i64 n := by rw [← Array.getD_eq_getD_getElem?]; exact hh.old 1 rfl
    have hJ := Lib.hid hh.st
    clear hh
    go_simp
    exact ⟨_, rfl, regs.bl_refl _, rfl, hJ.out⟩
  · refine regs.StepOK.yes 3 true 71 rfl rfl (fun L a w1 hh => hh.dep 3 71 (by kernel_rfl) (by kernel_rfl)) fun L a w1 hh => ?_
    have h72 : a.tmps[72]?.getD undef = .int .i64 n := by rw [← Array.getD_eq_getD_getElem?]; exact hh.dep 4 72 (by kernel_rfl) (by kernel_rfl)
    have hJ := Lib.hid hh.st
    clear hh
    go_simp
    exact ⟨_, rfl, regs.bl_refl _, rfl, hJ.out⟩
  · refine regs.StepOK.yes 3 true 71 rfl rfl (fun L a w1 hh => hh.dep 3 71 (by kernel_rfl) (by kernel_rfl)) fun L a w1 hh => ?_
    have h73 : a.tmps[73]?.getD undef = .bool true := by rw [← Array.getD_eq_getD_getElem?]; exact hh.dep 5 73 (by kernel_rfl) (by kernel_rfl)
    have hJ := Lib.hid hh.st
    clear hh
    go_simp
    exact ⟨_, rfl, regs.bl_refl _, rfl, hJ.out⟩
  · refine regs.StepOK.no 6 false 74 rfl rfl (fun L a w1 hh => ?_) fun L a w1 hh => ⟨rfl, hh.st⟩
    exact hh.dep 6 74 (by kernel_rfl) (by kernel_rfl)
  · refine regs.StepOK.no 6 false 74 rfl rfl (fun L a w1 hh => ?_) fun L a w1 hh => ⟨rfl, hh.st⟩
    exact hh.dep 6 74 (by kernel_rfl) (by kernel_rfl)
  · refine regs.StepOK.no 6 false 74 rfl rfl (fun L a w1 hh => ?_) fun L a w1 hh => ⟨rfl, hh.st⟩
    exact hh.dep 6 74 (by kernel_rfl) (by kernel_rfl)
  · refine regs.StepOK.no 6 false 74 rfl rfl (fun L a w1 hh => ?_) fun L a w1 hh => ⟨rfl, hh.st⟩
    exact hh.dep 6 74 (by kernel_rfl) (by kernel_rfl)
  · refine regs.StepOK.out_ 10 true 78 rfl rfl (fun L a w1 hh => ?_) fun L a w1 hh => ⟨rfl, hh.st⟩
    exact hh.dep 10 78 (by kernel_rfl) (by kernel_rfl)
  · refine regs.StepOK.out_ 10 true 78 rfl rfl (fun L a w1 hh => ?_) fun L a w1 hh => ⟨rfl, hh.st⟩
    exact hh.dep 10 78 (by kernel_rfl) (by kernel_rfl)
  · refine regs.StepOK.out_ 10 true 78 rfl rfl (fun L a w1 hh => ?_) fun L a w1 hh => ⟨rfl, hh.st⟩
    exact hh.dep 10 78 (by kernel_rfl) (by kernel_rfl)
  · refine regs.StepOK.out_ 10 true 78 rfl rfl (fun L a w1 hh => ?_) fun L a w1 hh => ⟨rfl, hh.st⟩
    exact hh.dep 10 78 (by kernel_rfl) (by kernel_rfl)
  · refine regs.StepOK.out_ 10 true 78 rfl rfl (fun L a w1 hh => ?_) fun L a w1 hh => ⟨rfl, hh.st⟩
    exact hh.dep 10 78 (by kernel_rfl) (by kernel_rfl)
  · refine regs.StepOK.out_ 10 true 78 rfl rfl (fun L a w1 hh => ?_) fun L a w1 hh => ⟨rfl, hh.st⟩
    exact hh.dep 10 78 (by kernel_rfl) (by kernel_rfl)
  · refine regs.StepOK.no 6 false 74 rfl rfl (fun L a w1 hh => ?_) fun L a w1 hh => ⟨rfl, hh.st⟩
    exact hh.dep 6 74 (by kernel_rfl) (by kernel_rfl)
  · refine regs.StepOK.yes 3 true 71 rfl rfl (fun L a w1 hh => hh.dep 3 71 (by kernel_rfl) (by kernel_rfl)) fun L a w1 hh => ?_
    have h74 : a.tmps[74]?.getD undef = .bool true := by rw [← Array.getD_eq_getD_getElem?]; exact hh.dep 6 74 (by kernel_rfl) (by kernel_rfl)
    have hJ := Lib.hid hh.st
    clear hh
    go_simp
    exact ⟨_, rfl, regs.bl_refl _, rfl, hJ.out⟩
  · refine regs.StepOK.plain rfl fun L a w1 hh => ?_
    have h71 : a.tmps[71]?.getD undef = .bool true := by rw [← Array.getD_eq_getD_getElem?]; exact hh.dep 3 71 (by kernel_rfl) (by kernel_rfl)
    have h86 : a.tmps[86]?.getD undef = .bool true := by rw [← Array.getD_eq_getD_getElem?]; exact hh.dep 18 86 (by kernel_rfl) (by kernel_rfl)
    have hJ := Lib.hid hh.st
    clear hh
    go_simp
    exact ⟨_, rfl, regs.bl_refl _, rfl, hJ.out⟩
  · refine regs.StepOK.plain rfl fun L a w1 hh => ?_
    have h87 : a.tmps[87]?.getD undef = .bool true := by rw [← Array.getD_eq_getD_getElem?]; exact hh.dep 19 87 (by kernel_rfl) (by kernel_rfl)
    have hJ := Lib.hid hh.st
    clear hh
    go_simp
    exact ⟨_, rfl, regs.bl_refl _, rfl, hJ.out⟩
  · refine regs.StepOK.yes 20 true 88 rfl rfl (fun L a w1 hh => hh.dep 20 88 (by kernel_rfl) (by kernel_rfl)) fun L a w1 hh => ?_
    have := True.intro
    have hJ := Lib.hid hh.st
    clear hh
    go_simp
    refine (awake_any w1).mono ?_
    rintro e w9 ⟨rfl, hb9⟩
    exact ⟨_, rfl, hb9, rfl, JBs.below hJ.out hb9⟩
  · refine regs.StepOK.plain rfl fun L a w1 hh => ?_
    have h88 : a.tmps[88]?.getD undef = .bool true := by rw [← Array.getD_eq_getD_getElem?]; exact hh.dep 20 88 (by kernel_rfl) (by kernel_rfl)
    have h89 : a.tmps[89]?.getD undef = .bool true := by rw [← Array.getD_eq_getD_getElem?]; exact hh.dep 21 89 (by kernel_rfl) (by kernel_rfl)
    have hJ := Lib.hid hh.st
    clear hh
    go_simp
    exact ⟨_, rfl, regs.bl_refl _, rfl, hJ.out⟩
  · refine regs.StepOK.plain rfl fun L a w1 hh => ?_
    have h90 : a.tmps[90]?.getD undef = .bool true := by rw [← Array.getD_eq_getD_getElem?]; exact hh.dep 22 90 (by kernel_rfl) (by kernel_rfl)
    have hJ := Lib.hid hh.st
    clear hh
    go_simp
    exact ⟨_, rfl, regs.bl_refl _, rfl, hJ.out⟩
  intro L w6 val hL hJ hR hv
  have h90 : val 90 = .bool true := hv 22 90 (by kernel_rfl)
  have h4 : val 4 = .bool true := hv 23 4 (by kernel_rfl)
  have HJ6 := Lib.hid hJ
  have HR6 := Lib.hid hR
  clear hv hL hJ hR
  simp only [regs.putAll, List.map_cons, List.map_nil]
  rw [h90, h4]
  generalize val 68 = v68
  generalize val 69 = v69
  generalize val 70 = v70
  generalize val 71 = v71
  generalize val 72 = v72
  generalize val 73 = v73
  generalize val 74 = v74
  generalize val 75 = v75
  generalize val 76 = v76
  generalize val 77 = v77
  generalize val 78 = v78
  generalize val 79 = v79
  generalize val 80 = v80
  generalize val 81 = v81
  generalize val 82 = v82
  generalize val 83 = v83
  generalize val 84 = v84
  generalize val 85 = v85
  generalize val 86 = v86
  generalize val 87 = v87
  generalize val 88 = v88
  generalize val 89 = v89
  simp only [Act.put, List.setIfInBounds_toArray, List.set_cons_zero, List.set_cons_succ]
  clear h90 h4
  go_wp2_with (fail)
  go_ret
  exact ⟨rfl, B5.out.trans (HR6.out.mono B5.out.size)⟩
set_option maxRecDepth 100000 in
set_option maxHeartbeats 4000000 in
theorem rectGrows_np (ra rb rc rd n : Int) (w : World) (hr : (⟨ra, rb, rc, rd⟩ : Bx).rt = true) (hn : nearB n = true) (h : decide (rc ≤ ra) = false) (h2 : decide (rd ≤ rb) = false) (hs : decide (n < 0) = false) (h3 : decide (rc + n ≤ ra - n) = false) (h4 : decide (rd + n ≤ rb - n) = false) : Calls Try.prog 5 #[(⟨ra, rb, rc, rd⟩ : Bx).v, .int .i64 n] w fun e w' => e = .returned (.bool true) ∧ Below w.heap.size w w' := by
  obtain ⟨n1, n2⟩ := nearB_of hn
  have HN : Hid (nearL [n] = true) := by show _ = _; simp [nearL, hn]
  have HR := Lib.hid (fun w => right_any ⟨ra, rb, rc, rd⟩ w)
  rw [hr] at HR
  have HG := Lib.hid (fun w => bx_grow ⟨ra, rb, rc, rd⟩ n w ⟨rt_wide hr, by omega, by omega⟩)
  obtain ⟨⟨a1, a2⟩, ⟨b1, b2⟩, ⟨c1, c2⟩, d1, d2⟩ := Bx.rt_of hr
  simp only at a1 a2 b1 b2 c1 c2 d1 d2
  have HE : (⟨ra, rb, rc, rd⟩ : Bx).emp = false := by
    show (decide (rc ≤ ra) || decide (rd ≤ rb)) = _
    rw [h, h2]; rfl
  have hW : (⟨ra - n, rb - n, rc + n, rd + n⟩ : Bx).emp = false := by
    show (decide (rc + n ≤ ra - n) || decide (rd + n ≤ rb - n)) = _
    rw [h3, h4]; rfl
  have e : Bx.grow ⟨ra, rb, rc, rd⟩ n = ⟨ra - n, rb - n, rc + n, rd + n⟩ := by unfold Bx.grow; rw [if_neg (by rw [HE]; decide), nrm_ff hW]
  rw [e] at HG
  have hn0 : 0 ≤ n := by simpa using hs
  have HWI : Hid (Bx.within ⟨ra, rb, rc, rd⟩ ⟨ra - n, rb - n, rc + n, rd + n⟩ = true) := within_in ⟨by show ra - n ≤ ra; omega, by show rb - n ≤ rb; omega, by show rc ≤ rc + n; omega, by show rd ≤ rd + n; omega⟩
  have HB : Hid (Bx.grow ⟨ra - n, rb - n, rc + n, rd + n⟩ (-n) = ⟨ra, rb, rc, rd⟩) := by
    show _ = _
    unfold Bx.grow
    rw [if_neg (by rw [hW]; decide)]
    have e2 : (⟨ra - n - -n, rb - n - -n, rc + n + -n, rd + n + -n⟩ : Bx) = ⟨ra, rb, rc, rd⟩ := bx_ext (by show ra - n - -n = ra; omega) (by show rb - n - -n = rb; omega) (by show rc + n + -n = rc; omega) (by show rd + n + -n = rd; omega)
    show Bx.nrm ⟨ra - n - -n, rb - n - -n, rc + n + -n, rd + n + -n⟩ = _
    rw [e2, nrm_ff HE]
  have HWD : Hid (Bx.wide ⟨ra - n, rb - n, rc + n, rd + n⟩ = true ∧ (-1099511627776 ≤ -n ∧ -n ≤ 1099511627776)) := ⟨decide_eq_true ⟨⟨by show _ ≤ ra - n; omega, by show ra - n ≤ _; omega⟩, ⟨by show _ ≤ rb - n; omega, by show rb - n ≤ _; omega⟩, ⟨by show _ ≤ rc + n; omega, by show rc + n ≤ _; omega⟩, by show _ ≤ rd + n; omega, by show rd + n ≤ _; omega⟩, by omega, by omega⟩
  have Q5 : Hid (IntKind.i64.wrap (-n) = -n) := IntWalk.i64_in _ (by omega)
  clear hn0
  have q1 : wrap64 (ra - n) = ra - n := IntWalk.wrap64_in _ (by omega)
  have q2 : wrap64 (rb - n) = rb - n := IntWalk.wrap64_in _ (by omega)
  have q3 : wrap64 (rc + n) = rc + n := IntWalk.wrap64_in _ (by omega)
  have q4 : wrap64 (rd + n) = rd + n := IntWalk.wrap64_in _ (by omega)
  clear e HE hW a1 a2 b1 b2 c1 c2 d1 d2 n1 n2 hn hr
  obtain ⟨pa, hpa⟩ : ∃ x, ra - n = x := ⟨_, rfl⟩
  obtain ⟨pb, hpb⟩ : ∃ x, rb - n = x := ⟨_, rfl⟩
  obtain ⟨pc, hpc⟩ : ∃ x, rc + n = x := ⟨_, rfl⟩
  obtain ⟨pd, hpd⟩ : ∃ x, rd + n = x := ⟨_, rfl⟩
  replace q1 := q1.trans hpa
  replace q2 := q2.trans hpb
  replace q3 := q3.trans hpc
  replace q4 := q4.trans hpd
  rw [hpa, hpc] at h3
  rw [hpb, hpd] at h4
  rw [hpa, hpb, hpc, hpd] at HG
  rw [hpa, hpb, hpc, hpd] at HWI HB HWD
  have HQ := Lib.hid (And.intro hpa (And.intro hpb (And.intro hpc hpd)))
  clear hpa hpb hpc hpd
  unfold Bx.v at *
  simp only at HR HG ⊢
  go_enter Try.func5, Try.ntmps5
  go_wp2_with (fail)
  refine (HR.out _).mono ?_
  rintro e w1 ⟨rfl, hb⟩
  have B1 : Hid (Below w.heap.size w w1) := ((Below.refl _ _).alloc (Nat.le_refl _) _).trans (hb.mono (by simp; try omega))
  have K1 : Hid (Blk w1 w.heap.size [.int .i64 ra, .int .i64 rb, .int .i64 rc, .int .i64 rd]) := (blk_new w [.int .i64 ra, .int .i64 rb, .int .i64 rc, .int .i64 rd] _).below hb (by simp)
  clear hb
  go_wp2_with (fail)
  refine (far_any _ [n] 1 _ (row_new _ [n] 3) (Nat.le_refl 1) (by decide)).mono ?_
  rw [HN.out]
  rintro e w2 ⟨rfl, rfl⟩
  have K2 : Hid (Blk (w1.alloc (.cells #[.int .i64 n] 3)) w.heap.size [.int .i64 ra, .int .i64 rb, .int .i64 rc, .int .i64 rd]) := K1.out.alloc _
  have B2 : Hid (Below w.heap.size w (w1.alloc (.cells #[.int .i64 n] 3))) := B1.out.alloc B1.out.size _
  obtain ⟨⟨c0, c1, c2, c3⟩, -, i0⟩ := K1.out.c4
  go_wp2_with (fail)
  refine (HG.out _).mono ?_
  rintro e w3 ⟨rfl, hb⟩
  have B3 : Hid (Below w.heap.size w (w3.alloc (.cells #[.int .i64 pa, .int .i64 pb, .int .i64 pc, .int .i64 pd] 23))) := (B2.out.trans (hb.mono B2.out.size)).alloc (Nat.le_trans B2.out.size hb.size) _
  have K3 : Hid (JBs [(w3.heap.size, [.int .i64 pa, .int .i64 pb, .int .i64 pc, .int .i64 pd]), (w.heap.size, [.int .i64 ra, .int .i64 rb, .int .i64 rc, .int .i64 rd])] (w3.alloc (.cells #[.int .i64 pa, .int .i64 pb, .int .i64 pc, .int .i64 pd] 23))) := ⟨blk_new w3 [.int .i64 pa, .int .i64 pb, .int .i64 pc, .int .i64 pd] _, (K2.out.below' hb).alloc _, trivial⟩
  have G3 : Hid (w.heap.size < w3.heap.size) := (K2.out.below' hb).inside
  clear hb c0 c1 c2 c3 i0 K1 K2 B1 B2
  go_upto_region 4 with fail
  generalize (w3.alloc (.cells #[.int .i64 pa, .int .i64 pb, .int .i64 pc, .int .i64 pd] 23)) = w4 at *
  generalize w3.heap.size = g3 at *
  obtain ⟨⟨c0, c1, c2, c3⟩, -, i0⟩ := K3.out.2.1.c4
  go_wp2_with (fail)
  have B5 : Hid (Below w.heap.size w (w4.alloc (.cells #[.int .i64 pa, .int .i64 pb, .int .i64 pc, .int .i64 pd] 23))) := B3.out.alloc B3.out.size _
  have K5 : Hid (JBs [(w4.heap.size, [.int .i64 pa, .int .i64 pb, .int .i64 pc, .int .i64 pd]), (g3, [.int .i64 pa, .int .i64 pb, .int .i64 pc, .int .i64 pd]), (w.heap.size, [.int .i64 ra, .int .i64 rb, .int .i64 rc, .int .i64 rd])] (w4.alloc (.cells #[.int .i64 pa, .int .i64 pb, .int .i64 pc, .int .i64 pd] 23))) := ⟨blk_new w4 [.int .i64 pa, .int .i64 pb, .int .i64 pc, .int .i64 pd] _, K3.out.alloc _⟩
  clear c0 c1 c2 c3 i0 K3 B3 h h2 h3 h4 q1 q2 q3 q4
  generalize (w4.alloc (.cells #[.int .i64 pa, .int .i64 pb, .int .i64 pc, .int .i64 pd] 23)) = w5 at *
  generalize w4.heap.size = g4 at *
  refine regs.wp_region_put (regs.bl) (fun _ wx => JBs [(g4, [.int .i64 pa, .int .i64 pb, .int .i64 pc, .int .i64 pd]), (g3, [.int .i64 pa, .int .i64 pb, .int .i64 pc, .int .i64 pd]), (w.heap.size, [.int .i64 ra, .int .i64 rb, .int .i64 rc, .int .i64 rd])] wx) [68, 69, 70, 71, 72, 73, 74, 75, 76, 77, 78, 79, 80, 81, 82, 83, 84, 85, 86, 87, 88, 89, 90, 4] (by kernel_rfl) (by kernel_rfl) (fun _ => regs.bl_refl _) (regs.bl_trans) (fun i => (match i with
    | 0 => regs.Say.val _ (.agg #[.int .i64 pa, .int .i64 pb, .int .i64 pc, .int .i64 pd])
    | 1 => regs.Say.val _ (.agg #[.int .i64 pa, .int .i64 pb, .int .i64 pc, .int .i64 pd])
    | 2 => regs.Say.val _ (.bool true)
    | 3 => regs.Say.val _ (.bool true)
    | 4 => regs.Say.val _ (.int .i64 n)
    | 5 => regs.Say.val _ (.bool false)
    | 6 => regs.Say.val _ (.bool false)
    | 7 => regs.Say.val _ (.agg #[.int .i64 ra, .int .i64 rb, .int .i64 rc, .int .i64 rd])
    | 8 => regs.Say.val _ (.agg #[.int .i64 pa, .int .i64 pb, .int .i64 pc, .int .i64 pd])
    | 9 => regs.Say.val _ (.bool true)
    | 10 => regs.Say.val _ (.bool true)
    | 11 => regs.Say.val _ (.agg #[.int .i64 pa, .int .i64 pb, .int .i64 pc, .int .i64 pd])
    | 12 => regs.Say.val _ (.int .i64 n)
    | 13 => regs.Say.val _ (.int .i64 (-n))
    | 14 => regs.Say.val _ (.agg #[.int .i64 ra, .int .i64 rb, .int .i64 rc, .int .i64 rd])
    | 15 => regs.Say.val _ (.agg #[.int .i64 ra, .int .i64 rb, .int .i64 rc, .int .i64 rd])
    | 16 => regs.Say.val _ (.bool true)
    | 17 => regs.Say.val _ (.bool true)
    | 18 => regs.Say.val _ (.bool true)
    | 19 => regs.Say.val _ (.bool true)
    | 20 => regs.Say.val _ (.bool true)
    | 21 => regs.Say.val _ (.bool true)
    | 22 => regs.Say.val _ (.bool true)
    | 23 => regs.Say.val _ (.bool true)
    | _ => regs.Say.any _ : regs.Say (regs.bl)).p) (fun _ => regs.Say.mono _) (by kernel_rfl) ((Below.refl _ _).drew) (K5.out) ⟨?_, ?_, ?_, ?_, ?_, ?_, ?_, ?_, ?_, ?_, ?_, ?_, ?_, ?_, ?_, ?_, ?_, ?_, ?_, ?_, ?_, ?_, ?_, ?_, trivial⟩ ?_
  · refine regs.StepOK.plain rfl fun L a w1 hh => ?_
    have h5 : a.tmps[5]?.getD undef = .pointer (some ⟨g3, 0, none⟩) := by rw [← Array.getD_eq_getD_getElem?]; exact hh.old 5 rfl
    obtain ⟨⟨c0, c1, c2, c3⟩, -, -⟩ := (hh.st.2.1).c4
    have hJ := Lib.hid hh.st
    clear hh
    go_simp
    exact ⟨_, rfl, regs.bl_refl _, rfl, hJ.out⟩
  · refine regs.StepOK.plain rfl fun L a w1 hh => ?_
    have h6 : a.tmps[6]?.getD undef = .pointer (some ⟨g4, 0, none⟩) := by rw [← Array.getD_eq_getD_getElem?]; exact hh.old 6 rfl
    obtain ⟨⟨c0, c1, c2, c3⟩, -, -⟩ := (hh.st.1).c4
    have hJ := Lib.hid hh.st
    clear hh
    go_simp
    exact ⟨_, rfl, regs.bl_refl _, rfl, hJ.out⟩
  · refine regs.StepOK.plain rfl fun L a w1 hh => ?_
    have h68 : a.tmps[68]?.getD undef = .agg #[.int .i64 pa, .int .i64 pb, .int .i64 pc, .int .i64 pd] := by rw [← Array.getD_eq_getD_getElem?]; exact hh.dep 0 68 (by kernel_rfl) (by kernel_rfl)
    have h69 : a.tmps[69]?.getD undef = .agg #[.int .i64 pa, .int .i64 pb, .int .i64 pc, .int .i64 pd] := by rw [← Array.getD_eq_getD_getElem?]; exact hh.dep 1 69 (by kernel_rfl) (by kernel_rfl)
    have eqst := fun w => bx_eq (⟨pa, pb, pc, pd⟩ : Bx) (⟨pa, pb, pc, pd⟩ : Bx) w
    rw [show (decide ((⟨pa, pb, pc, pd⟩ : Bx) = (⟨pa, pb, pc, pd⟩ : Bx))) = true from by simp] at eqst
    unfold Bx.v at eqst
    simp only at eqst
    have hJ := Lib.hid hh.st
    clear hh
    go_simp
    exact ⟨_, rfl, regs.bl_refl _, rfl, hJ.out⟩
  · refine regs.StepOK.plain rfl fun L a w1 hh => ?_
    have h70 : a.tmps[70]?.getD undef = .bool true := by rw [← Array.getD_eq_getD_getElem?]; exact hh.dep 2 70 (by kernel_rfl) (by kernel_rfl)
    have hJ := Lib.hid hh.st
    clear hh
    go_simp
    exact ⟨_, rfl, regs.bl_refl _, rfl, hJ.out⟩
  · refine regs.StepOK.yes 3 true 71 rfl rfl (fun L a w1 hh => hh.dep 3 71 (by kernel_rfl) (by kernel_rfl)) fun L a w1 hh => ?_
    have h1 : a.tmps[1]?.getD undef = .int .i64 n := by rw [← Array.getD_eq_getD_getElem?]; exact hh.old 1 rfl
    have hJ := Lib.hid hh.st
    clear hh
    go_simp
    exact ⟨_, rfl, regs.bl_refl _, rfl, hJ.out⟩
  · refine regs.StepOK.yes 3 true 71 rfl rfl (fun L a w1 hh => hh.dep 3 71 (by kernel_rfl) (by kernel_rfl)) fun L a w1 hh => ?_
    have h72 : a.tmps[72]?.getD undef = .int .i64 n := by rw [← Array.getD_eq_getD_getElem?]; exact hh.dep 4 72 (by kernel_rfl) (by kernel_rfl)
    have hJ := Lib.hid hh.st
    clear hh
    go_simp
    exact ⟨_, rfl, regs.bl_refl _, rfl, hJ.out⟩
  · refine regs.StepOK.yes 3 true 71 rfl rfl (fun L a w1 hh => hh.dep 3 71 (by kernel_rfl) (by kernel_rfl)) fun L a w1 hh => ?_
    have h73 : a.tmps[73]?.getD undef = .bool false := by rw [← Array.getD_eq_getD_getElem?]; exact hh.dep 5 73 (by kernel_rfl) (by kernel_rfl)
    have hJ := Lib.hid hh.st
    clear hh
    go_simp
    exact ⟨_, rfl, regs.bl_refl _, rfl, hJ.out⟩
  · refine regs.StepOK.yes 6 false 74 rfl rfl (fun L a w1 hh => hh.dep 6 74 (by kernel_rfl) (by kernel_rfl)) fun L a w1 hh => ?_
    have h2 : a.tmps[2]?.getD undef = .pointer (some ⟨w.heap.size, 0, none⟩) := by rw [← Array.getD_eq_getD_getElem?]; exact hh.old 2 rfl
    obtain ⟨⟨c0, c1, c2, c3⟩, -, -⟩ := (hh.st.2.2.1).c4
    have hJ := Lib.hid hh.st
    clear hh
    go_simp
    exact ⟨_, rfl, regs.bl_refl _, rfl, hJ.out⟩
  · refine regs.StepOK.yes 6 false 74 rfl rfl (fun L a w1 hh => hh.dep 6 74 (by kernel_rfl) (by kernel_rfl)) fun L a w1 hh => ?_
    have h5 : a.tmps[5]?.getD undef = .pointer (some ⟨g3, 0, none⟩) := by rw [← Array.getD_eq_getD_getElem?]; exact hh.old 5 rfl
    obtain ⟨⟨c0, c1, c2, c3⟩, -, -⟩ := (hh.st.2.1).c4
    have hJ := Lib.hid hh.st
    clear hh
    go_simp
    exact ⟨_, rfl, regs.bl_refl _, rfl, hJ.out⟩
  · refine regs.StepOK.yes 6 false 74 rfl rfl (fun L a w1 hh => hh.dep 6 74 (by kernel_rfl) (by kernel_rfl)) fun L a w1 hh => ?_
    have h75 : a.tmps[75]?.getD undef = .agg #[.int .i64 ra, .int .i64 rb, .int .i64 rc, .int .i64 rd] := by rw [← Array.getD_eq_getD_getElem?]; exact hh.dep 7 75 (by kernel_rfl) (by kernel_rfl)
    have h76 : a.tmps[76]?.getD undef = .agg #[.int .i64 pa, .int .i64 pb, .int .i64 pc, .int .i64 pd] := by rw [← Array.getD_eq_getD_getElem?]; exact hh.dep 8 76 (by kernel_rfl) (by kernel_rfl)
    have := True.intro
    have hJ := Lib.hid hh.st
    clear hh
    go_simp
    refine (bx_within (⟨ra, rb, rc, rd⟩ : Bx) (⟨pa, pb, pc, pd⟩ : Bx) w1).mono ?_
    rintro e w9 ⟨rfl, hb9⟩
    exact ⟨_, rfl, hb9, congrArg Value.bool HWI.out, JBs.below hJ.out hb9⟩
  · refine regs.StepOK.yes 6 false 74 rfl rfl (fun L a w1 hh => hh.dep 6 74 (by kernel_rfl) (by kernel_rfl)) fun L a w1 hh => ?_
    have h77 : a.tmps[77]?.getD undef = .bool true := by rw [← Array.getD_eq_getD_getElem?]; exact hh.dep 9 77 (by kernel_rfl) (by kernel_rfl)
    have hJ := Lib.hid hh.st
    clear hh
    go_simp
    exact ⟨_, rfl, regs.bl_refl _, rfl, hJ.out⟩
  · refine regs.StepOK.yes 10 true 78 rfl rfl (fun L a w1 hh => hh.dep 10 78 (by kernel_rfl) (by kernel_rfl)) fun L a w1 hh => ?_
    have h5 : a.tmps[5]?.getD undef = .pointer (some ⟨g3, 0, none⟩) := by rw [← Array.getD_eq_getD_getElem?]; exact hh.old 5 rfl
    obtain ⟨⟨c0, c1, c2, c3⟩, -, -⟩ := (hh.st.2.1).c4
    have hJ := Lib.hid hh.st
    clear hh
    go_simp
    exact ⟨_, rfl, regs.bl_refl _, rfl, hJ.out⟩
  · refine regs.StepOK.yes 10 true 78 rfl rfl (fun L a w1 hh => hh.dep 10 78 (by kernel_rfl) (by kernel_rfl)) fun L a w1 hh => ?_
    have h1 : a.tmps[1]?.getD undef = .int .i64 n := by rw [← Array.getD_eq_getD_getElem?]; exact hh.old 1 rfl
    have hJ := Lib.hid hh.st
    clear hh
    go_simp
    exact ⟨_, rfl, regs.bl_refl _, rfl, hJ.out⟩
  · refine regs.StepOK.yes 10 true 78 rfl rfl (fun L a w1 hh => hh.dep 10 78 (by kernel_rfl) (by kernel_rfl)) fun L a w1 hh => ?_
    have h80 : a.tmps[80]?.getD undef = .int .i64 n := by rw [← Array.getD_eq_getD_getElem?]; exact hh.dep 12 80 (by kernel_rfl) (by kernel_rfl)
    have q5 := Q5.out
    have hJ := Lib.hid hh.st
    clear hh
    go_simp
    exact ⟨_, rfl, regs.bl_refl _, rfl, hJ.out⟩
  · refine regs.StepOK.yes 10 true 78 rfl rfl (fun L a w1 hh => hh.dep 10 78 (by kernel_rfl) (by kernel_rfl)) fun L a w1 hh => ?_
    have h79 : a.tmps[79]?.getD undef = .agg #[.int .i64 pa, .int .i64 pb, .int .i64 pc, .int .i64 pd] := by rw [← Array.getD_eq_getD_getElem?]; exact hh.dep 11 79 (by kernel_rfl) (by kernel_rfl)
    have h81 : a.tmps[81]?.getD undef = .int .i64 (-n) := by rw [← Array.getD_eq_getD_getElem?]; exact hh.dep 13 81 (by kernel_rfl) (by kernel_rfl)
    have := True.intro
    have hJ := Lib.hid hh.st
    clear hh
    go_simp
    refine (bx_grow (⟨pa, pb, pc, pd⟩ : Bx) (-n) w1 HWD.out).mono ?_
    rintro e w9 ⟨rfl, hb9⟩
    exact ⟨_, rfl, hb9, congrArg Bx.v (HB.out), JBs.below hJ.out hb9⟩
  · refine regs.StepOK.yes 10 true 78 rfl rfl (fun L a w1 hh => hh.dep 10 78 (by kernel_rfl) (by kernel_rfl)) fun L a w1 hh => ?_
    have h2 : a.tmps[2]?.getD undef = .pointer (some ⟨w.heap.size, 0, none⟩) := by rw [← Array.getD_eq_getD_getElem?]; exact hh.old 2 rfl
    obtain ⟨⟨c0, c1, c2, c3⟩, -, -⟩ := (hh.st.2.2.1).c4
    have hJ := Lib.hid hh.st
    clear hh
    go_simp
    exact ⟨_, rfl, regs.bl_refl _, rfl, hJ.out⟩
  · refine regs.StepOK.yes 10 true 78 rfl rfl (fun L a w1 hh => hh.dep 10 78 (by kernel_rfl) (by kernel_rfl)) fun L a w1 hh => ?_
    have h82 : a.tmps[82]?.getD undef = .agg #[.int .i64 ra, .int .i64 rb, .int .i64 rc, .int .i64 rd] := by rw [← Array.getD_eq_getD_getElem?]; exact hh.dep 14 82 (by kernel_rfl) (by kernel_rfl)
    have h83 : a.tmps[83]?.getD undef = .agg #[.int .i64 ra, .int .i64 rb, .int .i64 rc, .int .i64 rd] := by rw [← Array.getD_eq_getD_getElem?]; exact hh.dep 15 83 (by kernel_rfl) (by kernel_rfl)
    have eqst := fun w => bx_eq (⟨ra, rb, rc, rd⟩ : Bx) (⟨ra, rb, rc, rd⟩ : Bx) w
    rw [show (decide ((⟨ra, rb, rc, rd⟩ : Bx) = (⟨ra, rb, rc, rd⟩ : Bx))) = true from by simp] at eqst
    unfold Bx.v at eqst
    simp only at eqst
    have hJ := Lib.hid hh.st
    clear hh
    go_simp
    exact ⟨_, rfl, regs.bl_refl _, rfl, hJ.out⟩
  · refine regs.StepOK.yes 6 false 74 rfl rfl (fun L a w1 hh => hh.dep 6 74 (by kernel_rfl) (by kernel_rfl)) fun L a w1 hh => ?_
    have h78 : a.tmps[78]?.getD undef = .bool true := by rw [← Array.getD_eq_getD_getElem?]; exact hh.dep 10 78 (by kernel_rfl) (by kernel_rfl)
    have h84 : a.tmps[84]?.getD undef = .bool true := by rw [← Array.getD_eq_getD_getElem?]; exact hh.dep 16 84 (by kernel_rfl) (by kernel_rfl)
    have hJ := Lib.hid hh.st
    clear hh
    go_simp
    exact ⟨_, rfl, regs.bl_refl _, rfl, hJ.out⟩
  · refine regs.StepOK.yes 3 true 71 rfl rfl (fun L a w1 hh => hh.dep 3 71 (by kernel_rfl) (by kernel_rfl)) fun L a w1 hh => ?_
    have h74 : a.tmps[74]?.getD undef = .bool false := by rw [← Array.getD_eq_getD_getElem?]; exact hh.dep 6 74 (by kernel_rfl) (by kernel_rfl)
    have h85 : a.tmps[85]?.getD undef = .bool true := by rw [← Array.getD_eq_getD_getElem?]; exact hh.dep 17 85 (by kernel_rfl) (by kernel_rfl)
    have hJ := Lib.hid hh.st
    clear hh
    go_simp
    exact ⟨_, rfl, regs.bl_refl _, rfl, hJ.out⟩
  · refine regs.StepOK.plain rfl fun L a w1 hh => ?_
    have h71 : a.tmps[71]?.getD undef = .bool true := by rw [← Array.getD_eq_getD_getElem?]; exact hh.dep 3 71 (by kernel_rfl) (by kernel_rfl)
    have h86 : a.tmps[86]?.getD undef = .bool true := by rw [← Array.getD_eq_getD_getElem?]; exact hh.dep 18 86 (by kernel_rfl) (by kernel_rfl)
    have hJ := Lib.hid hh.st
    clear hh
    go_simp
    exact ⟨_, rfl, regs.bl_refl _, rfl, hJ.out⟩
  · refine regs.StepOK.plain rfl fun L a w1 hh => ?_
    have h87 : a.tmps[87]?.getD undef = .bool true := by rw [← Array.getD_eq_getD_getElem?]; exact hh.dep 19 87 (by kernel_rfl) (by kernel_rfl)
    have hJ := Lib.hid hh.st
    clear hh
    go_simp
    exact ⟨_, rfl, regs.bl_refl _, rfl, hJ.out⟩
  · refine regs.StepOK.yes 20 true 88 rfl rfl (fun L a w1 hh => hh.dep 20 88 (by kernel_rfl) (by kernel_rfl)) fun L a w1 hh => ?_
    have := True.intro
    have hJ := Lib.hid hh.st
    clear hh
    go_simp
    refine (awake_any w1).mono ?_
    rintro e w9 ⟨rfl, hb9⟩
    exact ⟨_, rfl, hb9, rfl, JBs.below hJ.out hb9⟩
  · refine regs.StepOK.plain rfl fun L a w1 hh => ?_
    have h88 : a.tmps[88]?.getD undef = .bool true := by rw [← Array.getD_eq_getD_getElem?]; exact hh.dep 20 88 (by kernel_rfl) (by kernel_rfl)
    have h89 : a.tmps[89]?.getD undef = .bool true := by rw [← Array.getD_eq_getD_getElem?]; exact hh.dep 21 89 (by kernel_rfl) (by kernel_rfl)
    have hJ := Lib.hid hh.st
    clear hh
    go_simp
    exact ⟨_, rfl, regs.bl_refl _, rfl, hJ.out⟩
  · refine regs.StepOK.plain rfl fun L a w1 hh => ?_
    have h90 : a.tmps[90]?.getD undef = .bool true := by rw [← Array.getD_eq_getD_getElem?]; exact hh.dep 22 90 (by kernel_rfl) (by kernel_rfl)
    have hJ := Lib.hid hh.st
    clear hh
    go_simp
    exact ⟨_, rfl, regs.bl_refl _, rfl, hJ.out⟩
  intro L w6 val hL hJ hR hv
  have h90 : val 90 = .bool true := hv 22 90 (by kernel_rfl)
  have h4 : val 4 = .bool true := hv 23 4 (by kernel_rfl)
  have HJ6 := Lib.hid hJ
  have HR6 := Lib.hid hR
  clear hv hL hJ hR
  simp only [regs.putAll, List.map_cons, List.map_nil]
  rw [h90, h4]
  generalize val 68 = v68
  generalize val 69 = v69
  generalize val 70 = v70
  generalize val 71 = v71
  generalize val 72 = v72
  generalize val 73 = v73
  generalize val 74 = v74
  generalize val 75 = v75
  generalize val 76 = v76
  generalize val 77 = v77
  generalize val 78 = v78
  generalize val 79 = v79
  generalize val 80 = v80
  generalize val 81 = v81
  generalize val 82 = v82
  generalize val 83 = v83
  generalize val 84 = v84
  generalize val 85 = v85
  generalize val 86 = v86
  generalize val 87 = v87
  generalize val 88 = v88
  generalize val 89 = v89
  simp only [Act.put, List.setIfInBounds_toArray, List.set_cons_zero, List.set_cons_succ]
  clear h90 h4
  go_wp2_with (fail)
  go_ret
  exact ⟨rfl, B5.out.trans (HR6.out.mono B5.out.size)⟩
theorem rectGrows_walk (r : Bx) (n : Int) (w : World) (_ : -9223372036854775808 ≤ n) (_ : n ≤ 9223372036854775807) : Calls Try.prog 5 #[r.v, .int .i64 n] w fun e w' => e = .returned (.bool true) ∧ Below w.heap.size w w' := by
  cases h : (r.rt && nearB n) with
  | false => exact rectGrows_no r n w h
  | true =>
    rw [Bool.and_eq_true] at h
    obtain ⟨hr, hn⟩ := h
    obtain ⟨ra, rb, rc, rd⟩ := r
    cases t1 : decide (rc ≤ ra) with
    | true => exact rectGrows_a ra rb rc rd n w hr hn t1
    | false =>
      cases t2 : decide (rd ≤ rb) with
      | true => exact rectGrows_b ra rb rc rd n w hr hn t1 t2
      | false =>
        have g1 : ¬ rc ≤ ra := by simpa using t1
        have g2 : ¬ rd ≤ rb := by simpa using t2
        cases hs : decide (n < 0) with
        | true =>
          cases h3 : decide (rc + n ≤ ra - n) with
          | true => exact rectGrows_wa ra rb rc rd n w hr hn t1 t2 hs h3
          | false =>
            cases h4 : decide (rd + n ≤ rb - n) with
            | true => exact rectGrows_wb ra rb rc rd n w hr hn t1 t2 hs h3 h4
            | false => exact rectGrows_nn ra rb rc rd n w hr hn t1 t2 hs h3 h4
        | false =>
          have g3 : ¬ n < 0 := by simpa using hs
          exact rectGrows_np ra rb rc rd n w hr hn t1 t2 hs (decide_eq_false (by omega)) (decide_eq_false (by omega))
end Go.Proofs.Ytjnhjhbhodhfgaa
