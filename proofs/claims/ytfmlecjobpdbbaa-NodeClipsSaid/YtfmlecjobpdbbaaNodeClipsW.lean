/-
  NodeClips, walked.
-/
import Derived.Test.YtfmlecjobpdbbaaNdO
import Derived.Test.YtfmlecjobpdbbaaNdN
import Derived.Test.YtfmlecjobpdbbaaNdM
namespace Go.Proofs.Ytfmlecjobpdbbaa
open Go.RowKit pxm imm

def wantC (cl : Bool) (r : Bx) : Int := ndC Mp.one 255 cl r 0
theorem wantC_eq (cl : Bool) (r : Bx) : wantC cl r = if cl = true then (if r.l.all okc = true then 0 else 11) else (if decide (r = Bx.o) = true then 0 else 10) := by
  unfold wantC ndC
  rw [← clB_all, if_pos (by decide)]
  simp only [decide_eq_true_eq]
theorem info_int4 : (Try.prog.info? 3).map (fun i => (i.zero, i.size, i.bytes)) = some (some (.int .i64 0), 1, 8) := by kernel_rfl
theorem ix4_0 (x0 x1 x2 x3 : Value) (w : World) : (Instr.index 41 (.agg #[x0, x1, x2, x3]) (.int .i64 0)).run Try.prog w = .ok x0 w := by
  obtain ⟨i, hi, -, hs, -⟩ := info_parts info_int4
  simp [Instr.index, run_underlying Try.underlying41, asIntOf, go_sem, sizeOf, typeInfo, hi, hs]
theorem ix4_1 (x0 x1 x2 x3 : Value) (w : World) : (Instr.index 41 (.agg #[x0, x1, x2, x3]) (.int .i64 1)).run Try.prog w = .ok x1 w := by
  obtain ⟨i, hi, -, hs, -⟩ := info_parts info_int4
  simp [Instr.index, run_underlying Try.underlying41, asIntOf, go_sem, sizeOf, typeInfo, hi, hs]
theorem ix4_2 (x0 x1 x2 x3 : Value) (w : World) : (Instr.index 41 (.agg #[x0, x1, x2, x3]) (.int .i64 2)).run Try.prog w = .ok x2 w := by
  obtain ⟨i, hi, -, hs, -⟩ := info_parts info_int4
  simp [Instr.index, run_underlying Try.underlying41, asIntOf, go_sem, sizeOf, typeInfo, hi, hs]
theorem ix4_3 (x0 x1 x2 x3 : Value) (w : World) : (Instr.index 41 (.agg #[x0, x1, x2, x3]) (.int .i64 3)).run Try.prog w = .ok x3 w := by
  obtain ⟨i, hi, -, hs, -⟩ := info_parts info_int4
  simp [Instr.index, run_underlying Try.underlying41, asIntOf, go_sem, sizeOf, typeInfo, hi, hs]
theorem clips_pr : ∀ (r : Bx) (cl : Bool) w, Calls Try.prog 7 #[ndV Mp.one 255 false cl r 0 0 0 0 0 0 none 0 0] w fun e w' => e = .returned (.int .i64 (wantC cl r)) ∧ Below w.heap.size w w' := fun r cl w => by
  have h := ndcheck_any Mp.one 255 false cl r 0 0 0 0 0 0 none [] 0 (by decide) (by simp) (by simp) w (Row.none_ rfl)
  rw [show lkC 0 0 0 0 0 0 [] = 0 by decide] at h
  exact h
set_option maxHeartbeats 4000000 in
set_option maxRecDepth 100000 in
theorem clips_law (r : Bx) (cl : Bool) (w : World) : Calls Try.prog 5 #[r.v, .bool cl] w fun e w' => e = .returned (.bool true) ∧ Below w.heap.size w w' := by
  have HP := Lib.hid aw_P0
  obtain ⟨x0, y0, x1, y1⟩ := r
  have HC := Lib.hid (fun w => clip_any x0 y0 x1 y1 w)
  have HK : Hid (∀ w, Calls Try.prog 7 #[.agg #[.int .i64 65536, .int .i64 0, .int .i64 0, .int .i64 65536, .int .i64 0, .int .i64 0, .int .i64 255, .bool false, .bool cl, .int .i64 x0, .int .i64 y0, .int .i64 x1, .int .i64 y1, .int .i64 0, .int .i64 0, .int .i64 0, .int .u32 0, .int .i64 0, .int .i64 0, .slice none 0 0]] w fun e w' => e = .returned (.int .i64 (wantC cl ⟨x0, y0, x1, y1⟩)) ∧ Below w.heap.size w w') := fun w => clips_pr ⟨x0, y0, x1, y1⟩ cl w
  have HW := Lib.hid (wantC_eq cl ⟨x0, y0, x1, y1⟩)
  have hq := fun w => arr4i x0 y0 x1 y1 w
  have HA := Lib.hid (fun w => awake_any w)
  generalize wantC cl ⟨x0, y0, x1, y1⟩ = R at *
  generalize decide ((⟨x0, y0, x1, y1⟩ : Bx) = Bx.o) = u at *
  obtain ⟨rl, hrl⟩ : ∃ rl, Bx.l ⟨x0, y0, x1, y1⟩ = rl := ⟨_, rfl⟩
  rw [hrl] at HW
  have HRL := Lib.hid hrl
  clear hrl
  unfold Bx.v at *
  simp only at HC ⊢
  have HB0 : Hid (Below w.heap.size w (w.alloc (.cells #[.int .i64 x0, .int .i64 y0, .int .i64 x1, .int .i64 y1] 41))) := (Below.refl _ _).alloc (Nat.le_refl _) _
  have HJ0 : Hid (JBs [(w.heap.size, [.int .i64 x0, .int .i64 y0, .int .i64 x1, .int .i64 y1])] (w.alloc (.cells #[.int .i64 x0, .int .i64 y0, .int .i64 x1, .int .i64 y1] 41))) := ⟨blk_new w [.int .i64 x0, .int .i64 y0, .int .i64 x1, .int .i64 y1] _, trivial⟩
  go_enter Try.func5, Try.ntmps5
  go_wp2_with (fail)
  generalize (w.alloc (.cells #[.int .i64 x0, .int .i64 y0, .int .i64 x1, .int .i64 y1] 41)) = wz at *
  refine (HP.out _).mono ?_
  rintro e w1 ⟨rfl, hb⟩
  have HJ1 := Lib.hid (HJ0.out.below hb)
  have HB1 := Lib.hid (bel2 HB0.out hb)
  clear hb HP HJ0 HB0
  go_upto_region 2 with (first | (with_reducible show wpList _ _ _ (Oper.mk _ (Op.store _ _ _) _ _ _ _ :: _) _ _; first | (refine wpl_stow 34 _ _ rfl rfl rfl _ 0 rfl [.int .i64 65536, .int .i64 0, .int .i64 0, .int .i64 65536, .int .i64 0, .int .i64 0, .int .i64 255, .bool false, .bool false, .int .i64 0, .int .i64 0, .int .i64 0, .int .i64 0, .int .i64 0, .int .i64 0, .int .i64 0, .int .u32 0, .int .i64 0, .int .i64 0, .slice none 0 0] rfl _ (blk_new w1 [.int .i64 0, .int .i64 0, .int .i64 0, .int .i64 0, .int .i64 0, .int .i64 0, .int .i64 0, .bool false, .bool false, .int .i64 0, .int .i64 0, .int .i64 0, .int .i64 0, .int .i64 0, .int .i64 0, .int .i64 0, .int .u32 0, .int .i64 0, .int .i64 0, .slice none 0 0] 34) [.int .i64 65536, .int .i64 0, .int .i64 0, .int .i64 65536, .int .i64 0, .int .i64 0, .int .i64 255, .bool false, .bool false, .int .i64 0, .int .i64 0, .int .i64 0, .int .i64 0, .int .i64 0, .int .i64 0, .int .i64 0, .int .u32 0, .int .i64 0, .int .i64 0, .slice none 0 0] rfl (by simp) (by kernel_rfl) rfl ?_; intro w2 HW2 HK2)))
  have HJ2 : Hid (JBs [(w1.heap.size, [.int .i64 65536, .int .i64 0, .int .i64 0, .int .i64 65536, .int .i64 0, .int .i64 0, .int .i64 255, .bool false, .bool false, .int .i64 0, .int .i64 0, .int .i64 0, .int .i64 0, .int .i64 0, .int .i64 0, .int .i64 0, .int .u32 0, .int .i64 0, .int .i64 0, .slice none 0 0]), (w.heap.size, [.int .i64 x0, .int .i64 y0, .int .i64 x1, .int .i64 y1])] w2) := HJ1.out.made HW2.out HK2.out
  have HB2 := Lib.hid (HW2.out.made HB1.out)
  have HL1 : Hid (w.heap.size < w1.heap.size) := HJ1.out.1.inside
  clear HW2 HK2 HB1 HJ1
  generalize w1.heap.size = g1 at *
  have K0 : Hid (Blk w2 w.heap.size [.int .i64 x0, .int .i64 y0, .int .i64 x1, .int .i64 y1]) := HJ2.out.2.1
  go_wp2_with (first | (with_reducible show wpList _ _ _ (Oper.mk _ (Op.load _ _) _ _ _ _ :: _) _ _; first | (refine wpl_take 41 _ rfl rfl _ 0 rfl _ K0.out [.int .i64 x0, .int .i64 y0, .int .i64 x1, .int .i64 y1] rfl _ Try.underlying41 rfl (by kernel_rfl) ?_)))
  clear K0
  refine (HC.out _).mono ?_
  rintro e w3 ⟨rfl, hb⟩
  have HJ3 := Lib.hid (HJ2.out.below hb)
  have HB3 := Lib.hid (bel2 HB2.out hb)
  clear hb HC HJ2 HB2
  have h01 : w.heap.size ≠ g1 := by have := HL1.out; omega
  have K1 : Hid (Blk w3 g1 [.int .i64 65536, .int .i64 0, .int .i64 0, .int .i64 65536, .int .i64 0, .int .i64 0, .int .i64 255, .bool false, .bool false, .int .i64 0, .int .i64 0, .int .i64 0, .int .i64 0, .int .i64 0, .int .i64 0, .int .i64 0, .int .u32 0, .int .i64 0, .int .i64 0, .slice none 0 0]) := HJ3.out.1
  go_upto_region 3 with (first | ((with_reducible show wpList _ _ _ (Oper.mk _ (Op.store _ _ _) _ _ _ _ :: _) _ _); first | (refine wpl_stow 25 _ _ rfl rfl rfl _ 9 rfl [.int .i64 x0, .int .i64 y0, .int .i64 x1, .int .i64 y1] rfl _ K1.out [.int .i64 65536, .int .i64 0, .int .i64 0, .int .i64 65536, .int .i64 0, .int .i64 0, .int .i64 255, .bool false, .bool false, .int .i64 x0, .int .i64 y0, .int .i64 x1, .int .i64 y1, .int .i64 0, .int .i64 0, .int .i64 0, .int .u32 0, .int .i64 0, .int .i64 0, .slice none 0 0] rfl (by simp) (by kernel_rfl) rfl ?_; intro w4 HW4 HK4; have c8 := HK4.out.cell 8; have c8b : w4.cell? ⟨g1, 8, none⟩ = some (.bool false) := c8; have f8 := HK4.out.free 8; have i8 := HK4.out.inside; clear c8)))
  clear c8b f8 i8 K1
  have HW5 : Hid (Wrote g1 w4 (w4.setCell ⟨g1, 8, none⟩ (.bool cl))) := ⟨8, [.bool cl], rfl⟩
  have HJ5 : Hid (JBs [(g1, [.int .i64 65536, .int .i64 0, .int .i64 0, .int .i64 65536, .int .i64 0, .int .i64 0, .int .i64 255, .bool false, .bool cl, .int .i64 x0, .int .i64 y0, .int .i64 x1, .int .i64 y1, .int .i64 0, .int .i64 0, .int .i64 0, .int .u32 0, .int .i64 0, .int .i64 0, .slice none 0 0]), (w.heap.size, [.int .i64 x0, .int .i64 y0, .int .i64 x1, .int .i64 y1])] (w4.setCell ⟨g1, 8, none⟩ (.bool cl))) := ⟨HK4.out.set 8 (.bool cl), HW5.out.blk h01 (HW4.out.blk h01 HJ3.out.2.1), trivial⟩
  have HB5 := Lib.hid (HW5.out.below (HW4.out.below HB3.out (Nat.le_of_lt HL1.out)) (Nat.le_of_lt HL1.out))
  clear HW4 HK4 HW5 HJ3 HB3 HL1 h01
  generalize w4.setCell ⟨g1, 8, none⟩ (.bool cl) = w5 at *
  have K0 : Hid (Blk w5 w.heap.size [.int .i64 x0, .int .i64 y0, .int .i64 x1, .int .i64 y1]) := HJ5.out.2.1
  have K1 : Hid (Blk w5 g1 [.int .i64 65536, .int .i64 0, .int .i64 0, .int .i64 65536, .int .i64 0, .int .i64 0, .int .i64 255, .bool false, .bool cl, .int .i64 x0, .int .i64 y0, .int .i64 x1, .int .i64 y1, .int .i64 0, .int .i64 0, .int .i64 0, .int .u32 0, .int .i64 0, .int .i64 0, .slice none 0 0]) := HJ5.out.1
  go_wp2_with (first | (with_reducible show wpList _ _ _ (Oper.mk _ (Op.load _ _) _ _ _ _ :: _) _ _; first | (refine wpl_take 41 _ rfl rfl _ 0 rfl _ K0.out [.int .i64 x0, .int .i64 y0, .int .i64 x1, .int .i64 y1] rfl _ Try.underlying41 rfl (by kernel_rfl) ?_)))
  cases cl with
  | true =>
    have HW2 : Hid (R = if rl.all okc = true then 0 else 11) := HW.out
    clear HW
    go_loop [6, 16] (fun v i => ∃ j : Nat, j ≤ 4 ∧ i = .int .i64 j ∧ v = .int .i64 (if (rl.take j).all okc = true then 0 else 11)) (fun _ i => 4 - (intOf i).toNat)
    case atStart => exact ⟨0, Nat.zero_le _, rfl, rfl⟩
    case round =>
      obtain ⟨j, hj, rfl, rfl⟩ := hrel
      by_cases hlt4 : j < 4
      · have HT := HRL.out
        subst HT
        have HS : Hid (∀ x, (Bx.l ⟨x0, y0, x1, y1⟩)[j]? = some x → ((Bx.l ⟨x0, y0, x1, y1⟩).take (j + 1)).all okc = (((Bx.l ⟨x0, y0, x1, y1⟩).take j).all okc && okc x)) := fun x hx => by
          obtain ⟨h1, rfl⟩ := List.getElem?_eq_some_iff.1 hx
          rw [List.take_succ_eq_append_getElem h1, List.all_append]
          simp
        obtain rfl | rfl | rfl | rfl : j = 0 ∨ j = 1 ∨ j = 2 ∨ j = 3 := by omega
        · have hix := fun w => ix4_0 (.int .i64 x0) (.int .i64 y0) (.int .i64 x1) (.int .i64 y1) w
          have HS1 := Lib.hid (HS.out x0 rfl)
          have HO : Hid (okc x0 = decide (-16384 ≤ x0 ∧ x0 ≤ 16384)) := rfl
          clear HS
          by_cases t1 : x0 < -16384
          · have s1 : decide (x0 < -16384) = true := by simpa using t1
            have HO2 : Hid (okc x0 = false) := HO.out.trans (decide_eq_false (by omega))
            clear t1 HO
            go_wp2_with (fail)
            go_round
            case rel => exact ⟨1, by decide, by go_num, by rw [HS1.out, HO2.out, Bool.and_false]; rfl⟩
            case measure => simp [intOf]
          · have s1 : decide (x0 < -16384) = false := by simpa using t1
            by_cases t2 : 16384 < x0
            · have s2 : decide (16384 < x0) = true := by simpa using t2
              have HO2 : Hid (okc x0 = false) := HO.out.trans (decide_eq_false (by omega))
              clear t1 t2 HO
              go_wp2_with (fail)
              go_round
              case rel => exact ⟨1, by decide, by go_num, by rw [HS1.out, HO2.out, Bool.and_false]; rfl⟩
              case measure => simp [intOf]
            · have s2 : decide (16384 < x0) = false := by simpa using t2
              have HO2 : Hid (okc x0 = true) := HO.out.trans (decide_eq_true (by omega))
              clear t1 t2 HO
              go_wp2_with (fail)
              go_round
              case rel => exact ⟨1, by decide, by go_num, by rw [HS1.out, HO2.out, Bool.and_true]⟩
              case measure => simp [intOf]
        · have hix := fun w => ix4_1 (.int .i64 x0) (.int .i64 y0) (.int .i64 x1) (.int .i64 y1) w
          have HS1 := Lib.hid (HS.out y0 rfl)
          have HO : Hid (okc y0 = decide (-16384 ≤ y0 ∧ y0 ≤ 16384)) := rfl
          clear HS
          by_cases t1 : y0 < -16384
          · have s1 : decide (y0 < -16384) = true := by simpa using t1
            have HO2 : Hid (okc y0 = false) := HO.out.trans (decide_eq_false (by omega))
            clear t1 HO
            go_wp2_with (fail)
            go_round
            case rel => exact ⟨2, by decide, by go_num, by rw [HS1.out, HO2.out, Bool.and_false]; rfl⟩
            case measure => simp [intOf]
          · have s1 : decide (y0 < -16384) = false := by simpa using t1
            by_cases t2 : 16384 < y0
            · have s2 : decide (16384 < y0) = true := by simpa using t2
              have HO2 : Hid (okc y0 = false) := HO.out.trans (decide_eq_false (by omega))
              clear t1 t2 HO
              go_wp2_with (fail)
              go_round
              case rel => exact ⟨2, by decide, by go_num, by rw [HS1.out, HO2.out, Bool.and_false]; rfl⟩
              case measure => simp [intOf]
            · have s2 : decide (16384 < y0) = false := by simpa using t2
              have HO2 : Hid (okc y0 = true) := HO.out.trans (decide_eq_true (by omega))
              clear t1 t2 HO
              go_wp2_with (fail)
              go_round
              case rel => exact ⟨2, by decide, by go_num, by rw [HS1.out, HO2.out, Bool.and_true]⟩
              case measure => simp [intOf]
        · have hix := fun w => ix4_2 (.int .i64 x0) (.int .i64 y0) (.int .i64 x1) (.int .i64 y1) w
          have HS1 := Lib.hid (HS.out x1 rfl)
          have HO : Hid (okc x1 = decide (-16384 ≤ x1 ∧ x1 ≤ 16384)) := rfl
          clear HS
          by_cases t1 : x1 < -16384
          · have s1 : decide (x1 < -16384) = true := by simpa using t1
            have HO2 : Hid (okc x1 = false) := HO.out.trans (decide_eq_false (by omega))
            clear t1 HO
            go_wp2_with (fail)
            go_round
            case rel => exact ⟨3, by decide, by go_num, by rw [HS1.out, HO2.out, Bool.and_false]; rfl⟩
            case measure => simp [intOf]
          · have s1 : decide (x1 < -16384) = false := by simpa using t1
            by_cases t2 : 16384 < x1
            · have s2 : decide (16384 < x1) = true := by simpa using t2
              have HO2 : Hid (okc x1 = false) := HO.out.trans (decide_eq_false (by omega))
              clear t1 t2 HO
              go_wp2_with (fail)
              go_round
              case rel => exact ⟨3, by decide, by go_num, by rw [HS1.out, HO2.out, Bool.and_false]; rfl⟩
              case measure => simp [intOf]
            · have s2 : decide (16384 < x1) = false := by simpa using t2
              have HO2 : Hid (okc x1 = true) := HO.out.trans (decide_eq_true (by omega))
              clear t1 t2 HO
              go_wp2_with (fail)
              go_round
              case rel => exact ⟨3, by decide, by go_num, by rw [HS1.out, HO2.out, Bool.and_true]⟩
              case measure => simp [intOf]
        · have hix := fun w => ix4_3 (.int .i64 x0) (.int .i64 y0) (.int .i64 x1) (.int .i64 y1) w
          have HS1 := Lib.hid (HS.out y1 rfl)
          have HO : Hid (okc y1 = decide (-16384 ≤ y1 ∧ y1 ≤ 16384)) := rfl
          clear HS
          by_cases t1 : y1 < -16384
          · have s1 : decide (y1 < -16384) = true := by simpa using t1
            have HO2 : Hid (okc y1 = false) := HO.out.trans (decide_eq_false (by omega))
            clear t1 HO
            go_wp2_with (fail)
            go_round
            case rel => exact ⟨4, by decide, by go_num, by rw [HS1.out, HO2.out, Bool.and_false]; rfl⟩
            case measure => simp [intOf]
          · have s1 : decide (y1 < -16384) = false := by simpa using t1
            by_cases t2 : 16384 < y1
            · have s2 : decide (16384 < y1) = true := by simpa using t2
              have HO2 : Hid (okc y1 = false) := HO.out.trans (decide_eq_false (by omega))
              clear t1 t2 HO
              go_wp2_with (fail)
              go_round
              case rel => exact ⟨4, by decide, by go_num, by rw [HS1.out, HO2.out, Bool.and_false]; rfl⟩
              case measure => simp [intOf]
            · have s2 : decide (16384 < y1) = false := by simpa using t2
              have HO2 : Hid (okc y1 = true) := HO.out.trans (decide_eq_true (by omega))
              clear t1 t2 HO
              go_wp2_with (fail)
              go_round
              case rel => exact ⟨4, by decide, by go_num, by rw [HS1.out, HO2.out, Bool.and_true]⟩
              case measure => simp [intOf]
      · obtain rfl : j = 4 := by omega
        have HF : Hid ((if (rl.take 4).all okc = true then 0 else 11) = R) := by
          show _ = _
          rw [HW2.out, List.take_of_length_le (by rw [← HRL.out]; exact Nat.le_refl 4)]
        rw [HF.out]
        clear HF hlt4 HW2 HRL
        have qR : (R == R) = true := by simp
        go_wp2_with (first | (with_reducible show wpList _ _ _ (Oper.mk _ (Op.load _ _) _ _ _ _ :: _) _ _; first | (refine wpl_take 34 _ rfl rfl _ 0 rfl _ K1.out [.int .i64 65536, .int .i64 0, .int .i64 0, .int .i64 65536, .int .i64 0, .int .i64 0, .int .i64 255, .bool false, .bool true, .int .i64 x0, .int .i64 y0, .int .i64 x1, .int .i64 y1, .int .i64 0, .int .i64 0, .int .i64 0, .int .u32 0, .int .i64 0, .int .i64 0, .slice none 0 0] rfl _ Try.underlying34 rfl (by kernel_rfl) ?_) | (refine wpl_take 41 _ rfl rfl _ 0 rfl _ K0.out [.int .i64 x0, .int .i64 y0, .int .i64 x1, .int .i64 y1] rfl _ Try.underlying41 rfl (by kernel_rfl) ?_)))
        refine (HK.out _).mono ?_
        rintro e w6 ⟨rfl, hb⟩
        have HB6 := Lib.hid (bel2 HB5.out hb)
        clear hb HK HB5 HJ5 K0 K1
        go_wp2_with (fail)
        refine (HA.out _).mono ?_
        rintro e w7 ⟨rfl, hb⟩
        have HB7 := Lib.hid (bel2 HB6.out hb)
        clear hb HA HB6
        go_wp2_with (fail)
        go_ret
        exact ⟨rfl, HB7.out⟩
  | false =>
    have HW2 : Hid (R = if u = true then 0 else 10) := HW.out
    clear HW HRL
    go_loop [6, 16] (fun v i => ∃ j : Nat, j ≤ 4 ∧ i = .int .i64 j ∧ v = .int .i64 0) (fun _ i => 4 - (intOf i).toNat)
    case atStart => exact ⟨0, Nat.zero_le _, rfl, rfl⟩
    case round =>
      obtain ⟨j, hj, rfl, rfl⟩ := hrel
      by_cases hlt4 : j < 4
      · obtain rfl | rfl | rfl | rfl : j = 0 ∨ j = 1 ∨ j = 2 ∨ j = 3 := by omega
        · have hix := fun w => ix4_0 (.int .i64 x0) (.int .i64 y0) (.int .i64 x1) (.int .i64 y1) w
          go_wp2_with (fail)
          go_round
          case rel => exact ⟨1, by decide, by go_num, rfl⟩
          case measure => simp [intOf]
        · have hix := fun w => ix4_1 (.int .i64 x0) (.int .i64 y0) (.int .i64 x1) (.int .i64 y1) w
          go_wp2_with (fail)
          go_round
          case rel => exact ⟨2, by decide, by go_num, rfl⟩
          case measure => simp [intOf]
        · have hix := fun w => ix4_2 (.int .i64 x0) (.int .i64 y0) (.int .i64 x1) (.int .i64 y1) w
          go_wp2_with (fail)
          go_round
          case rel => exact ⟨3, by decide, by go_num, rfl⟩
          case measure => simp [intOf]
        · have hix := fun w => ix4_3 (.int .i64 x0) (.int .i64 y0) (.int .i64 x1) (.int .i64 y1) w
          go_wp2_with (fail)
          go_round
          case rel => exact ⟨4, by decide, by go_num, rfl⟩
          case measure => simp [intOf]
      · obtain rfl : j = 4 := by omega
        clear hlt4
        cases u with
        | true =>
          obtain rfl := HW2.out
          go_wp2_with (first | (with_reducible show wpList _ _ _ (Oper.mk _ (Op.load _ _) _ _ _ _ :: _) _ _; first | (refine wpl_take 34 _ rfl rfl _ 0 rfl _ K1.out [.int .i64 65536, .int .i64 0, .int .i64 0, .int .i64 65536, .int .i64 0, .int .i64 0, .int .i64 255, .bool false, .bool false, .int .i64 x0, .int .i64 y0, .int .i64 x1, .int .i64 y1, .int .i64 0, .int .i64 0, .int .i64 0, .int .u32 0, .int .i64 0, .int .i64 0, .slice none 0 0] rfl _ Try.underlying34 rfl (by kernel_rfl) ?_) | (refine wpl_take 41 _ rfl rfl _ 0 rfl _ K0.out [.int .i64 x0, .int .i64 y0, .int .i64 x1, .int .i64 y1] rfl _ Try.underlying41 rfl (by kernel_rfl) ?_)))
          refine (HK.out _).mono ?_
          rintro e w6 ⟨rfl, hb⟩
          have HB6 := Lib.hid (bel2 HB5.out hb)
          clear hb HK HB5 HJ5 K0 K1
          go_wp2_with (fail)
          refine (HA.out _).mono ?_
          rintro e w7 ⟨rfl, hb⟩
          have HB7 := Lib.hid (bel2 HB6.out hb)
          clear hb HA HB6
          go_wp2_with (fail)
          go_ret
          exact ⟨rfl, HB7.out⟩
        | false =>
          obtain rfl := HW2.out
          go_wp2_with (first | (with_reducible show wpList _ _ _ (Oper.mk _ (Op.load _ _) _ _ _ _ :: _) _ _; first | (refine wpl_take 34 _ rfl rfl _ 0 rfl _ K1.out [.int .i64 65536, .int .i64 0, .int .i64 0, .int .i64 65536, .int .i64 0, .int .i64 0, .int .i64 255, .bool false, .bool false, .int .i64 x0, .int .i64 y0, .int .i64 x1, .int .i64 y1, .int .i64 0, .int .i64 0, .int .i64 0, .int .u32 0, .int .i64 0, .int .i64 0, .slice none 0 0] rfl _ Try.underlying34 rfl (by kernel_rfl) ?_) | (refine wpl_take 41 _ rfl rfl _ 0 rfl _ K0.out [.int .i64 x0, .int .i64 y0, .int .i64 x1, .int .i64 y1] rfl _ Try.underlying41 rfl (by kernel_rfl) ?_)))
          refine (HK.out _).mono ?_
          rintro e w6 ⟨rfl, hb⟩
          have HB6 := Lib.hid (bel2 HB5.out hb)
          clear hb HK HB5 HJ5 K0 K1
          go_wp2_with (fail)
          refine (HA.out _).mono ?_
          rintro e w7 ⟨rfl, hb⟩
          have HB7 := Lib.hid (bel2 HB6.out hb)
          clear hb HA HB6
          go_wp2_with (fail)
          go_ret
          exact ⟨rfl, HB7.out⟩
end Go.Proofs.Ytfmlecjobpdbbaa
