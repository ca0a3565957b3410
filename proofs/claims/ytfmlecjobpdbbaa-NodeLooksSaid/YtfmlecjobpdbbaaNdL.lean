/-
  Layer 11: the document's check of a look.
-/
import Derived.Test.YtfmlecjobpdbbaaNdK
namespace Go.Proofs.Ytfmlecjobpdbbaa
open Go.RowKit pxm imm

def noneB (iw ih : Int) (l : List Nat) : Bool := (iw == 0) && ((ih == 0) && (((l.length : Nat) : Int) == 0))
theorem noneB_eq (iw ih : Int) (l : List Nat) : hasI iw ih l = !noneB iw ih l := by
  unfold hasI eqB noneB
  rw [Bool.eq_iff_iff]
  simp
def bareB (W H : Int) (p : Nat) : Bool := (W == 0) && ((H == 0) && ((p : Int) == 0))
theorem bareB_eq (W H : Int) (p : Nat) : hasF W H p = !bareB W H p := by
  unfold hasF bareB
  rw [Bool.eq_iff_iff]
  simp
  try omega
set_option maxHeartbeats 4000000 in
set_option maxRecDepth 100000 in
theorem dlook_any (m : Mp) (op : Int) (hi cl : Bool) (r : Bx) (k W H : Int) (p : Nat) (iw ih : Int) (A : Option Addr) (l : List Nat) (c : Nat) (hp : p < 4294967296) (hl : ∀ z ∈ l, z < 4294967296) (hn : l.length ≤ maxLen) (w : World) (hr : Row eW w A l) :
    Calls Try.prog 11 #[ndV m op hi cl r k W H p iw ih A l.length c] w fun e w' => e = .returned (.int .i64 (lkC k W H p iw ih l)) ∧ Below w.heap.size w w' := by
  have HR := Lib.hid hr
  have HC : Hid (lkC k W H p iw ih l = if k = 0 then fmC (!hasF W H p && !hasI iw ih l) else if k = 1 then (if sidesB W H = true then fmC (rb p && !hasI iw ih l) else 11) else if k = 2 then fmC (smallB iw ih l && !hasF W H p) else 11) := rfl
  have HSM : Hid (smallB iw ih l = (decide (iw ≤ 256 ∧ ih ≤ 256) && decide (chk iw ih l = 0))) := rfl
  have HSI : Hid (sidesB W H = decide (1 ≤ W ∧ 1 ≤ H ∧ W ≤ 4096 ∧ H ≤ 4096)) := rfl
  have HK := Lib.hid (fun w hr => dchk_any iw ih A l c hl hn w hr)
  have HF := Lib.hid (fun w => dfr_any p hp w)
  have HG := Lib.hid (fun w => drt_any p hp w)
  have HNO : Hid (noneB iw ih l = ((iw == 0) && ((ih == 0) && (((l.length : Nat) : Int) == 0)))) := rfl
  have HBA : Hid (bareB W H p = ((W == 0) && ((H == 0) && ((p : Int) == 0)))) := rfl
  rw [noneB_eq, bareB_eq, Bool.not_not, Bool.not_not] at HC
  have hn3 : l.length ≤ 9223372036854775807 := by unfold maxLen at hn; omega
  clear hr hp hl hn
  generalize lkC k W H p iw ih l = R at *
  generalize noneB iw ih l = nB at *
  generalize bareB W H p = bB at *
  generalize smallB iw ih l = sB at *
  generalize chk iw ih l = C at *
  generalize sidesB W H = S at *
  generalize rb p = br at *
  unfold imV at HK
  unfold frV at HF HG
  unfold ndV
  obtain ⟨ma, mb, mc, md, me, mf⟩ := m
  obtain ⟨x0, y0, x1, y1⟩ := r
  simp only
  have HB : Hid (Below w.heap.size w (w.alloc (.cells #[.int .i64 ma, .int .i64 mb, .int .i64 mc, .int .i64 md, .int .i64 me, .int .i64 mf, .int .i64 op, .bool hi, .bool cl, .int .i64 x0, .int .i64 y0, .int .i64 x1, .int .i64 y1, .int .i64 k, .int .i64 W, .int .i64 H, .int .u32 (p : Nat), .int .i64 iw, .int .i64 ih, .slice A l.length c] 46))) := (Below.refl _ _).alloc (Nat.le_refl _) _
  have HI : Hid (Blk (w.alloc (.cells #[.int .i64 ma, .int .i64 mb, .int .i64 mc, .int .i64 md, .int .i64 me, .int .i64 mf, .int .i64 op, .bool hi, .bool cl, .int .i64 x0, .int .i64 y0, .int .i64 x1, .int .i64 y1, .int .i64 k, .int .i64 W, .int .i64 H, .int .u32 (p : Nat), .int .i64 iw, .int .i64 ih, .slice A l.length c] 46)) w.heap.size [.int .i64 ma, .int .i64 mb, .int .i64 mc, .int .i64 md, .int .i64 me, .int .i64 mf, .int .i64 op, .bool hi, .bool cl, .int .i64 x0, .int .i64 y0, .int .i64 x1, .int .i64 y1, .int .i64 k, .int .i64 W, .int .i64 H, .int .u32 (p : Nat), .int .i64 iw, .int .i64 ih, .slice A l.length c]) := blk_new w [.int .i64 ma, .int .i64 mb, .int .i64 mc, .int .i64 md, .int .i64 me, .int .i64 mf, .int .i64 op, .bool hi, .bool cl, .int .i64 x0, .int .i64 y0, .int .i64 x1, .int .i64 y1, .int .i64 k, .int .i64 W, .int .i64 H, .int .u32 (p : Nat), .int .i64 iw, .int .i64 ih, .slice A l.length c] _
  go_enter Try.func11, Try.ntmps11
  go_upto_region 1 with (fail)
  generalize (w.alloc (.cells #[.int .i64 ma, .int .i64 mb, .int .i64 mc, .int .i64 md, .int .i64 me, .int .i64 mf, .int .i64 op, .bool hi, .bool cl, .int .i64 x0, .int .i64 y0, .int .i64 x1, .int .i64 y1, .int .i64 k, .int .i64 W, .int .i64 H, .int .u32 (p : Nat), .int .i64 iw, .int .i64 ih, .slice A l.length c] 46)) = wz at *
  have c13 : wz.cell? ⟨w.heap.size, 13, none⟩ = some (.int .i64 k) := HI.out.cell 13
  have c14 : wz.cell? ⟨w.heap.size, 14, none⟩ = some (.int .i64 W) := HI.out.cell 14
  have c15 : wz.cell? ⟨w.heap.size, 15, none⟩ = some (.int .i64 H) := HI.out.cell 15
  have c16 : wz.cell? ⟨w.heap.size, 16, none⟩ = some (.int .u32 (p : Nat)) := HI.out.cell 16
  have c17 : wz.cell? ⟨w.heap.size, 17, none⟩ = some (.int .i64 iw) := HI.out.cell 17
  have c18 : wz.cell? ⟨w.heap.size, 18, none⟩ = some (.int .i64 ih) := HI.out.cell 18
  have c19 : wz.cell? ⟨w.heap.size, 19, none⟩ = some (.slice A l.length c) := HI.out.cell 19
  have hlt := HI.out.inside
  generalize h1 : (iw == 0) = b1 at *
  generalize h2 : (ih == 0) = b2 at *
  generalize h3 : (((l.length : Nat) : Int) == 0) = b3 at *
  generalize h4 : (W == 0) = b4 at *
  generalize h5 : (H == 0) = b5 at *
  generalize h6 : ((p : Int) == 0) = b6 at *
  go_cut [3] from 22 (fun u wx => u = .bool (b1 && (b2 && b3)) ∧ wx = wz)
  case first =>
    cases b1 with
    | false =>
      go_wp2_with (fail)
      go_meet
      case rel => exact ⟨rfl, rfl⟩
    | true =>
      cases b2 with
      | false =>
        go_wp2_with (fail)
        go_meet
        case rel => exact ⟨rfl, rfl⟩
      | true =>
        go_wp2_with (fail)
        go_meet
        case rel => exact ⟨rfl, rfl⟩
  case rest =>
    obtain ⟨rfl, rfl⟩ := hcut
    have e1 := HNO.out
    rw [← e1]
    clear e1
    go_upto_region 2 with (fail)
    go_cut [4] from 35 (fun u wx => u = .bool (b4 && (b5 && b6)) ∧ wx = wc)
    case first =>
      cases b4 with
      | false =>
        go_wp2_with (fail)
        go_meet
        case rel => exact ⟨rfl, rfl⟩
      | true =>
        cases b5 with
        | false =>
          go_wp2_with (fail)
          go_meet
          case rel => exact ⟨rfl, rfl⟩
        | true =>
          go_wp2_with (fail)
          go_meet
          case rel => exact ⟨rfl, rfl⟩
    case rest =>
      obtain ⟨rfl, rfl⟩ := hcut
      have e1 := HBA.out
      rw [← e1]
      clear e1
      clear HNO HBA h1 h2 h3 h4 h5 h6
      by_cases k0 : k = 0
      · subst k0
        have HC2 := Lib.hid (HC.out.trans (if_pos rfl))
        clear HC HSM HSI HK HF HG
        cases nB with
        | false =>
          rw [Bool.and_false] at HC2
          go_wp2_with (fail)
          go_ret
          exact ⟨ret_num HC2.out.symm, HB.out⟩
        | true =>
          rw [Bool.and_true] at HC2
          cases bB with
          | false =>
            go_wp2_with (fail)
            go_ret
            exact ⟨ret_num HC2.out.symm, HB.out⟩
          | true =>
            go_wp2_with (fail)
            go_ret
            exact ⟨ret_num HC2.out.symm, HB.out⟩
      · have q0 : (k == 0) = false := by simp; omega
        have HC2 := Lib.hid (HC.out.trans (if_neg k0))
        clear HC
        by_cases k1 : k = 1
        · subst k1
          clear q0 k0
          have HC3 := Lib.hid (HC2.out.trans (if_pos rfl))
          clear HC2 HSM HK
          by_cases t1 : W < 1
          · have t : decide (W < 1) = true := by simpa using t1
            have HS1 : Hid (S = false) := HSI.out.trans (decide_eq_false (by omega))
            clear t1 HSI
            rw [HS1.out] at HC3
            clear HS1 HF HG
            go_wp2_with (fail)
            go_ret
            exact ⟨ret_num HC3.out.symm, HB.out⟩
          · have s1 : decide (W < 1) = false := by simpa using t1
            by_cases t2 : H < 1
            · have t : decide (H < 1) = true := by simpa using t2
              have HS1 : Hid (S = false) := HSI.out.trans (decide_eq_false (by omega))
              clear t1 t2 HSI
              rw [HS1.out] at HC3
              clear HS1 HF HG
              go_wp2_with (fail)
              go_ret
              exact ⟨ret_num HC3.out.symm, HB.out⟩
            · have s2 : decide (H < 1) = false := by simpa using t2
              by_cases t3 : 4096 < W
              · have t : decide (4096 < W) = true := by simpa using t3
                have HS1 : Hid (S = false) := HSI.out.trans (decide_eq_false (by omega))
                clear t1 t2 t3 HSI
                rw [HS1.out] at HC3
                clear HS1 HF HG
                go_wp2_with (fail)
                go_ret
                exact ⟨ret_num HC3.out.symm, HB.out⟩
              · have s3 : decide (4096 < W) = false := by simpa using t3
                by_cases t4 : 4096 < H
                · have t : decide (4096 < H) = true := by simpa using t4
                  have HS1 : Hid (S = false) := HSI.out.trans (decide_eq_false (by omega))
                  clear t1 t2 t3 t4 HSI
                  rw [HS1.out] at HC3
                  clear HS1 HF HG
                  go_wp2_with (fail)
                  go_ret
                  exact ⟨ret_num HC3.out.symm, HB.out⟩
                · have s4 : decide (4096 < H) = false := by simpa using t4
                  have HS1 : Hid (S = true) := HSI.out.trans (decide_eq_true (by omega))
                  clear t1 t2 t3 t4 HSI
                  rw [HS1.out] at HC3
                  clear HS1
                  cases nB with
                  | false =>
                    rw [Bool.and_false] at HC3
                    clear HF HG
                    go_wp2_with (fail)
                    go_ret
                    exact ⟨ret_num HC3.out.symm, HB.out⟩
                  | true =>
                    rw [Bool.and_true] at HC3
                    go_wp2_with (fail)
                    refine (HF.out _).mono ?_
                    rintro e w1 ⟨rfl, hb⟩
                    have HB1 : Hid (Below w.heap.size w w1) := bel2 HB.out hb
                    have HI1 := Lib.hid (HI.out.below' hb)
                    clear hb HF c13 c14 c15 c16 c17 c18 c19 hlt
                    go_wp2_with (fail)
                    refine (HG.out _).mono ?_
                    rintro e w2 ⟨rfl, hb⟩
                    have HB2 : Hid (Below w.heap.size w w2) := bel2 HB1.out hb
                    have HI2 := Lib.hid (HI1.out.below' hb)
                    clear hb HG
                    have c13 : w2.cell? ⟨w.heap.size, 13, none⟩ = some (.int .i64 1) := HI2.out.cell 13
                    have c14 : w2.cell? ⟨w.heap.size, 14, none⟩ = some (.int .i64 W) := HI2.out.cell 14
                    have c15 : w2.cell? ⟨w.heap.size, 15, none⟩ = some (.int .i64 H) := HI2.out.cell 15
                    have c16 : w2.cell? ⟨w.heap.size, 16, none⟩ = some (.int .u32 (p : Nat)) := HI2.out.cell 16
                    have c17 : w2.cell? ⟨w.heap.size, 17, none⟩ = some (.int .i64 iw) := HI2.out.cell 17
                    have c18 : w2.cell? ⟨w.heap.size, 18, none⟩ = some (.int .i64 ih) := HI2.out.cell 18
                    have c19 : w2.cell? ⟨w.heap.size, 19, none⟩ = some (.slice A l.length c) := HI2.out.cell 19
                    have hlt := HI2.out.inside
                    cases br with
                    | false =>
                      go_wp2_with (fail)
                      go_ret
                      exact ⟨ret_num HC3.out.symm, HB2.out⟩
                    | true =>
                      go_wp2_with (fail)
                      go_ret
                      exact ⟨ret_num HC3.out.symm, HB2.out⟩
        · have q1 : (k == 1) = false := by simp; omega
          have HC3 := Lib.hid (HC2.out.trans (if_neg k1))
          clear HC2 HSI HF HG
          by_cases k2 : k = 2
          · subst k2
            clear q0 q1 k0 k1
            have HC4 := Lib.hid (HC3.out.trans (if_pos rfl))
            clear HC3
            cases bB with
            | false =>
              rw [Bool.and_false] at HC4
              clear HK HSM
              go_wp2_with (fail)
              go_ret
              exact ⟨ret_num HC4.out.symm, HB.out⟩
            | true =>
              rw [Bool.and_true] at HC4
              go_wp2_with (fail)
              refine (HK.out _ (HR.out.below HB.out)).mono ?_
              rintro e w1 ⟨rfl, hb⟩
              have HB1 : Hid (Below w.heap.size w w1) := bel2 HB.out hb
              have HI1 := Lib.hid (HI.out.below' hb)
              clear hb HK c13 c14 c15 c16 c17 c18 c19 hlt
              have c13 : w1.cell? ⟨w.heap.size, 13, none⟩ = some (.int .i64 2) := HI1.out.cell 13
              have c14 : w1.cell? ⟨w.heap.size, 14, none⟩ = some (.int .i64 W) := HI1.out.cell 14
              have c15 : w1.cell? ⟨w.heap.size, 15, none⟩ = some (.int .i64 H) := HI1.out.cell 15
              have c16 : w1.cell? ⟨w.heap.size, 16, none⟩ = some (.int .u32 (p : Nat)) := HI1.out.cell 16
              have c17 : w1.cell? ⟨w.heap.size, 17, none⟩ = some (.int .i64 iw) := HI1.out.cell 17
              have c18 : w1.cell? ⟨w.heap.size, 18, none⟩ = some (.int .i64 ih) := HI1.out.cell 18
              have c19 : w1.cell? ⟨w.heap.size, 19, none⟩ = some (.slice A l.length c) := HI1.out.cell 19
              have hlt := HI1.out.inside
              by_cases z0 : C = 0
              · have qz : (C == 0) = true := by simp; omega
                rw [decide_eq_true z0, Bool.and_true] at HSM
                clear z0
                by_cases t1 : iw ≤ 256
                · have s1 : decide (iw ≤ 256) = true := by simpa using t1
                  have HS1 : Hid (sB = decide (ih ≤ 256)) := HSM.out.trans (decide_eq_decide.2 ⟨fun h => h.2, fun h => ⟨t1, h⟩⟩)
                  rw [HS1.out] at HC4
                  clear HSM HS1 t1
                  generalize hd : decide (ih ≤ 256) = d at *
                  cases d with
                  | false =>
                    go_wp2_with (fail)
                    go_ret
                    exact ⟨ret_num HC4.out.symm, HB1.out⟩
                  | true =>
                    go_wp2_with (fail)
                    go_ret
                    exact ⟨ret_num HC4.out.symm, HB1.out⟩
                · have s1 : decide (iw ≤ 256) = false := by simpa using t1
                  have HS1 : Hid (sB = false) := HSM.out.trans (decide_eq_false (fun h => t1 h.1))
                  rw [HS1.out] at HC4
                  clear HSM HS1 t1
                  go_wp2_with (fail)
                  go_ret
                  exact ⟨ret_num HC4.out.symm, HB1.out⟩
              · have qz : (C == 0) = false := by simp; omega
                have HS1 : Hid (sB = false) := HSM.out.trans (by rw [decide_eq_false z0, Bool.and_false])
                rw [HS1.out] at HC4
                clear HSM HS1 z0
                go_wp2_with (fail)
                go_ret
                exact ⟨ret_num HC4.out.symm, HB1.out⟩
          · have q2 : (k == 2) = false := by simp; omega
            have HC4 := Lib.hid (HC3.out.trans (if_neg k2))
            clear HC3 HSM HK
            by_cases t1 : k < 0
            · have t : decide (k < 0) = true := by simpa using t1
              clear t1 k0 k1 k2 q0 q1 q2
              go_wp2_with (fail)
              go_ret
              exact ⟨ret_num HC4.out.symm, HB.out⟩
            · have s1 : decide (k < 0) = false := by simpa using t1
              have t : decide (2 < k) = true := by simp; omega
              clear t1 k0 k1 k2 q0 q1 q2
              go_wp2_with (fail)
              go_ret
              exact ⟨ret_num HC4.out.symm, HB.out⟩
end Go.Proofs.Ytfmlecjobpdbbaa
