/-
  Layer 11: the document's check of a node.
-/
import Derived.Test.YtfmlecjobpdbbaaNdL
namespace Go.Proofs.Ytfmlecjobpdbbaa
open Go.RowKit pxm imm

def okc (x : Int) : Bool := decide (-16384 ≤ x ∧ x ≤ 16384)
def Bx.l (r : Bx) : List Int := [r.a, r.b, r.c, r.d]
theorem clB_all (r : Bx) : clB r = r.l.all okc := by
  unfold clB Bx.l okc
  rw [Bool.eq_iff_iff]
  simp only [List.all_cons, List.all_nil, Bool.and_eq_true, decide_eq_true_eq, Bool.and_true]
  omega
theorem arr4i (a b c d : Int) (w : World) : (binOp .neq 41 (.agg #[.int .i64 a, .int .i64 b, .int .i64 c, .int .i64 d]) (.agg #[.int .i64 0, .int .i64 0, .int .i64 0, .int .i64 0])).run Try.prog w = .ok (.bool (!decide ((⟨a, b, c, d⟩ : Bx) = Bx.o))) w := by
  obtain ⟨i, hi⟩ : ∃ i, Try.prog.info? 3 = some i := ⟨_, rfl⟩
  have hc : Try.prog.cellsOf 3 = 1 := by kernel_rfl
  have h := run_equalIn_array (P := Try.prog) w 9999 #[.int .i64 a, .int .i64 b, .int .i64 c, .int .i64 d] #[.int .i64 0, .int .i64 0, .int .i64 0, .int .i64 0] Try.underlying41 hi
  rw [hc] at h
  rw [run_neq_struct, h]
  unfold Bx.o
  by_cases ha : a = 0
  · by_cases hb : b = 0
    · by_cases hc : c = 0
      · by_cases hd : d = 0
        · subst ha; subst hb; subst hc; subst hd
          simp [Op.eqItems, List.range, List.range.loop, part, go_sem]
        · rw [decide_eq_false (by simp [hd])]
          simp [Op.eqItems, List.range, List.range.loop, part, go_sem, ha, hb, hc, hd]
      · rw [decide_eq_false (by simp [hc])]
        simp [Op.eqItems, List.range, List.range.loop, part, go_sem, ha, hb, hc]
    · rw [decide_eq_false (by simp [hb])]
      simp [Op.eqItems, List.range, List.range.loop, part, go_sem, ha, hb]
  · rw [decide_eq_false (by simp [ha])]
    simp [Op.eqItems, List.range, List.range.loop, part, go_sem, ha]
set_option maxHeartbeats 4000000 in
set_option maxRecDepth 100000 in
theorem dnode_any (m : Mp) (op : Int) (hi cl : Bool) (r : Bx) (k W H : Int) (p : Nat) (iw ih : Int) (A : Option Addr) (l : List Nat) (c : Nat) (hp : p < 4294967296) (hl : ∀ z ∈ l, z < 4294967296) (hn : l.length ≤ maxLen) (w : World) (hr : Row eW w A l) :
    Calls Try.prog 8 #[ndV m op hi cl r k W H p iw ih A l.length c] w fun e w' => e = .returned (.int .i64 (ndC m op cl r (lkC k W H p iw ih l))) ∧ Below w.heap.size w w' := by
  have HM := Lib.hid (fun w => mp_dright m w)
  have HL := Lib.hid (fun w hr => dlook_any m op hi cl r k W H p iw ih A l c hp hl hn w hr)
  have HC : Hid (ndC m op cl r (lkC k W H p iw ih l) = if (m.right && decide (0 ≤ op ∧ op ≤ 255)) = true then (if cl = true then (if clB r = true then lkC k W H p iw ih l else 11) else (if decide (r = Bx.o) = true then lkC k W H p iw ih l else 10)) else 11) := by show _ = _; unfold ndC; simp only [decide_eq_true_eq]
  rw [clB_all] at HC
  have HR := Lib.hid hr
  have hn3 : l.length ≤ 9223372036854775807 := by unfold maxLen at hn; omega
  clear hp hl hn hr
  generalize ndC m op cl r (lkC k W H p iw ih l) = R at *
  generalize lkC k W H p iw ih l = K at *
  generalize m.right = y at *
  unfold ndV at *
  obtain ⟨ma, mb, mc, md, me, mf⟩ := m
  obtain ⟨x0, y0, x1, y1⟩ := r
  have hq := fun w => arr4i x0 y0 x1 y1 w
  generalize decide ((⟨x0, y0, x1, y1⟩ : Bx) = Bx.o) = u at *
  obtain ⟨rl, hrl⟩ : ∃ rl, Bx.l ⟨x0, y0, x1, y1⟩ = rl := ⟨_, rfl⟩
  rw [hrl] at HC
  have HRL := Lib.hid hrl
  have hrn : rl.length = 4 := by rw [← hrl]; rfl
  have HRN := Lib.hid hrn
  clear hrl hrn
  unfold Mp.v at HM
  simp only at HM HL ⊢
  have HB0 : Hid (Below w.heap.size w (w.alloc (.cells #[.int .i64 ma, .int .i64 mb, .int .i64 mc, .int .i64 md, .int .i64 me, .int .i64 mf, .int .i64 op, .bool hi, .bool cl, .int .i64 x0, .int .i64 y0, .int .i64 x1, .int .i64 y1, .int .i64 k, .int .i64 W, .int .i64 H, .int .u32 (p : Nat), .int .i64 iw, .int .i64 ih, .slice A l.length c] 46))) := (Below.refl _ _).alloc (Nat.le_refl _) _
  have HK0 : Hid (Blk (w.alloc (.cells #[.int .i64 ma, .int .i64 mb, .int .i64 mc, .int .i64 md, .int .i64 me, .int .i64 mf, .int .i64 op, .bool hi, .bool cl, .int .i64 x0, .int .i64 y0, .int .i64 x1, .int .i64 y1, .int .i64 k, .int .i64 W, .int .i64 H, .int .u32 (p : Nat), .int .i64 iw, .int .i64 ih, .slice A l.length c] 46)) w.heap.size [.int .i64 ma, .int .i64 mb, .int .i64 mc, .int .i64 md, .int .i64 me, .int .i64 mf, .int .i64 op, .bool hi, .bool cl, .int .i64 x0, .int .i64 y0, .int .i64 x1, .int .i64 y1, .int .i64 k, .int .i64 W, .int .i64 H, .int .u32 (p : Nat), .int .i64 iw, .int .i64 ih, .slice A l.length c]) := blk_new w [.int .i64 ma, .int .i64 mb, .int .i64 mc, .int .i64 md, .int .i64 me, .int .i64 mf, .int .i64 op, .bool hi, .bool cl, .int .i64 x0, .int .i64 y0, .int .i64 x1, .int .i64 y1, .int .i64 k, .int .i64 W, .int .i64 H, .int .u32 (p : Nat), .int .i64 iw, .int .i64 ih, .slice A l.length c] _
  go_enter Try.func8, Try.ntmps8
  go_wp2_with (first | (with_reducible show wpList _ _ _ (Oper.mk _ (Op.load _ _) _ _ _ _ :: _) _ _; first | (refine wpl_take 40 _ rfl rfl _ 0 rfl _ HK0.out [.int .i64 ma, .int .i64 mb, .int .i64 mc, .int .i64 md, .int .i64 me, .int .i64 mf] rfl _ Try.underlying40 rfl (by kernel_rfl) ?_)))
  refine (HM.out _).mono ?_
  rintro e w1 ⟨rfl, hb⟩
  have HB : Hid (Below w.heap.size w w1) := bel2 HB0.out hb
  have HK := Lib.hid (HK0.out.below' hb)
  clear hb HM HB0 HK0
  have c6 : w1.cell? ⟨w.heap.size, 6, none⟩ = some (.int .i64 op) := HK.out.cell 6
  have c8 : w1.cell? ⟨w.heap.size, 8, none⟩ = some (.bool cl) := HK.out.cell 8
  have hlt := HK.out.inside
  cases y with
  | false =>
    go_wp2_with (fail)
    go_ret
    exact ⟨ret_num HC.out.symm, HB.out⟩
  | true =>
    by_cases o1 : op < 0
    · have t1 : decide (op < 0) = true := by simpa using o1
      have HC2 : Hid (R = 11) := HC.out.trans (if_neg (by rw [decide_eq_false (by omega)]; decide))
      clear o1 HC
      go_wp2_with (fail)
      go_ret
      exact ⟨ret_num HC2.out.symm, HB.out⟩
    · have t1 : decide (op < 0) = false := by simpa using o1
      by_cases o2 : 255 < op
      · have t2 : decide (255 < op) = true := by simpa using o2
        have HC2 : Hid (R = 11) := HC.out.trans (if_neg (by rw [decide_eq_false (by omega)]; decide))
        clear o1 o2 HC
        go_wp2_with (fail)
        go_ret
        exact ⟨ret_num HC2.out.symm, HB.out⟩
      · have t2 : decide (255 < op) = false := by simpa using o2
        have HC2 := Lib.hid (HC.out.trans (if_pos (by rw [decide_eq_true (by omega)]; rfl)))
        clear o1 o2 HC
        cases cl with
        | true =>
          have HC3 : Hid (R = if rl.all okc = true then K else 11) := HC2.out
          clear HC2
          go_wp2_with (fail)
          clear t1 t2 c6
          go_loop [3] (fun i => ∃ j : Nat, j ≤ 4 ∧ i = .int .i64 j ∧ Hid ((rl.take j).all okc = true)) (fun i => 4 - (intOf i).toNat)
          case atStart => exact ⟨0, Nat.zero_le _, rfl, rfl⟩
          case round =>
            obtain ⟨j, hj, rfl, HJ⟩ := hrel
            by_cases hlt4 : j < 4
            · have t : decide (j < 4) = true := by simpa using hlt4
              have hjl : j < rl.length := by rw [HRN.out]; exact hlt4
              have hc : w1.cell? ⟨w.heap.size, 9 + j, none⟩ = some (.int .i64 rl[j]) := by
                have h1 := HK.out.cell (9 + j)
                rw [h1]
                have h2 := HRL.out
                subst h2
                obtain rfl | rfl | rfl | rfl : j = 0 ∨ j = 1 ∨ j = 2 ∨ j = 3 := by omega
                all_goals rfl
              have H1 := Lib.hid (all_take (p := okc) HJ.out hjl)
              have H0 := Lib.hid (all_no (p := okc) hjl)
              generalize rl[j] = x at *
              have HO : Hid (okc x = decide (-16384 ≤ x ∧ x ≤ 16384)) := rfl
              clear HJ
              by_cases x1 : x < -16384
              · have t1 : decide (x < -16384) = true := by simpa using x1
                have HF := Lib.hid (HC3.out.trans (if_neg (by rw [H0.out (HO.out.trans (decide_eq_false (by omega)))]; decide)))
                clear x1 H0 H1 HO
                go_wp2_with (fail)
                go_ret
                exact ⟨ret_num HF.out.symm, HB.out⟩
              · have t1 : decide (x < -16384) = false := by simpa using x1
                by_cases x2 : 16384 < x
                · have t2 : decide (16384 < x) = true := by simpa using x2
                  have HF := Lib.hid (HC3.out.trans (if_neg (by rw [H0.out (HO.out.trans (decide_eq_false (by omega)))]; decide)))
                  clear x1 x2 H0 H1 HO
                  go_wp2_with (fail)
                  go_ret
                  exact ⟨ret_num HF.out.symm, HB.out⟩
                · have t2 : decide (16384 < x) = false := by simpa using x2
                  have HJ2 := Lib.hid (H1.out (HO.out.trans (decide_eq_true (by omega))))
                  clear x1 x2 H0 H1 HO
                  go_wp2_with (fail)
                  go_round
                  case rel => exact ⟨j + 1, by omega, by go_num, HJ2⟩
                  case measure => simp [intOf]; omega
            · obtain rfl : j = 4 := by omega
              have HC2 : Hid (R = K) := HC3.out.trans (if_pos (by have := HJ.out; rwa [List.take_of_length_le (by rw [HRN.out]; exact Nat.le_refl _)] at this))
              clear hlt4 HJ HC3
              go_wp2_with (first | (with_reducible show wpList _ _ _ (Oper.mk _ (Op.load _ _) _ _ _ _ :: _) _ _; first | (refine wpl_take 46 _ rfl rfl _ 0 rfl _ HK.out [.int .i64 ma, .int .i64 mb, .int .i64 mc, .int .i64 md, .int .i64 me, .int .i64 mf, .int .i64 op, .bool hi, .bool true, .int .i64 x0, .int .i64 y0, .int .i64 x1, .int .i64 y1, .int .i64 k, .int .i64 W, .int .i64 H, .int .u32 (p : Nat), .int .i64 iw, .int .i64 ih, .slice A l.length c] rfl _ Try.underlying46 rfl (by kernel_rfl) ?_) | (refine wpl_take 41 _ rfl rfl _ 9 rfl _ HK.out [.int .i64 x0, .int .i64 y0, .int .i64 x1, .int .i64 y1] rfl _ Try.underlying41 rfl (by kernel_rfl) ?_)))
              refine (HL.out _ (HR.out.below HB.out)).mono ?_
              rintro e w9 ⟨rfl, hb⟩
              have HB9 : Hid (Below w.heap.size w w9) := bel2 HB.out hb
              clear hb HL
              go_wp2_with (fail)
              go_ret
              exact ⟨ret_num HC2.out.symm, HB9.out⟩
        | false =>
          go_wp2_with (fail)
          clear t1 t2 c6
          go_loop [3] (fun i => ∃ j : Nat, j ≤ 4 ∧ i = .int .i64 j) (fun i => 4 - (intOf i).toNat)
          case atStart => exact ⟨0, Nat.zero_le _, rfl⟩
          case round =>
            obtain ⟨j, hj, rfl⟩ := hrel
            by_cases hlt4 : j < 4
            · have t : decide (j < 4) = true := by simpa using hlt4
              go_wp2_with (fail)
              go_round
              case rel => exact ⟨j + 1, by omega, by go_num⟩
              case measure => simp [intOf]; omega
            · obtain rfl : j = 4 := by omega
              clear hlt4
              have e9 : w1.cell? ⟨w.heap.size, 9, none⟩ = some (.int .i64 x0) := HK.out.cell 9
              have e10 : w1.cell? ⟨w.heap.size, 10, none⟩ = some (.int .i64 y0) := HK.out.cell 10
              have e11 : w1.cell? ⟨w.heap.size, 11, none⟩ = some (.int .i64 x1) := HK.out.cell 11
              have e12 : w1.cell? ⟨w.heap.size, 12, none⟩ = some (.int .i64 y1) := HK.out.cell 12
              cases u with
              | false =>
                go_wp2_with (first | (with_reducible show wpList _ _ _ (Oper.mk _ (Op.load _ _) _ _ _ _ :: _) _ _; first | (refine wpl_take 41 _ rfl rfl _ 9 rfl _ HK.out [.int .i64 x0, .int .i64 y0, .int .i64 x1, .int .i64 y1] rfl _ Try.underlying41 rfl (by kernel_rfl) ?_)))
                go_ret
                exact ⟨ret_num HC2.out.symm, HB.out⟩
              | true =>
                go_wp2_with (first | (with_reducible show wpList _ _ _ (Oper.mk _ (Op.load _ _) _ _ _ _ :: _) _ _; first | (refine wpl_take 46 _ rfl rfl _ 0 rfl _ HK.out [.int .i64 ma, .int .i64 mb, .int .i64 mc, .int .i64 md, .int .i64 me, .int .i64 mf, .int .i64 op, .bool hi, .bool false, .int .i64 x0, .int .i64 y0, .int .i64 x1, .int .i64 y1, .int .i64 k, .int .i64 W, .int .i64 H, .int .u32 (p : Nat), .int .i64 iw, .int .i64 ih, .slice A l.length c] rfl _ Try.underlying46 rfl (by kernel_rfl) ?_) | (refine wpl_take 41 _ rfl rfl _ 9 rfl _ HK.out [.int .i64 x0, .int .i64 y0, .int .i64 x1, .int .i64 y1] rfl _ Try.underlying41 rfl (by kernel_rfl) ?_)))
                refine (HL.out _ (HR.out.below HB.out)).mono ?_
                rintro e w9 ⟨rfl, hb⟩
                have HB9 : Hid (Below w.heap.size w w9) := bel2 HB.out hb
                clear hb HL
                go_wp2_with (fail)
                go_ret
                exact ⟨ret_num HC2.out.symm, HB9.out⟩
end Go.Proofs.Ytfmlecjobpdbbaa
