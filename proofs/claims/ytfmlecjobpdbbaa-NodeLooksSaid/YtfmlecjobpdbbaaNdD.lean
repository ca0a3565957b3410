/-
  Layer 11: a look's Check, Size, At.
-/
import Derived.Test.YtfmlecjobpdbbaaNdC
namespace Go.Proofs.Ytfmlecjobpdbbaa
open Go.RowKit pxm imm

def lkC (k W H : Int) (p : Nat) (iw ih : Int) (l : List Nat) : Int :=
  if k = 0 then fmC (!hasF W H p && !hasI iw ih l) else if k = 1 then (if sidesB W H = true then fmC (rb p && !hasI iw ih l) else 11) else if k = 2 then fmC (smallB iw ih l && !hasF W H p) else 11
theorem bel2 {w w1 w2 : World} (h : Below w.heap.size w w1) (hb : Below w1.heap.size w1 w2) : Below w.heap.size w w2 := h.trans (hb.mono h.size)
set_option maxHeartbeats 2000000 in
theorem lkcheck_any (k W H : Int) (p : Nat) (iw ih : Int) (A : Option Addr) (l : List Nat) (c : Nat) (hp : p < 4294967296) (hl : ∀ z ∈ l, z < 4294967296) (hn : l.length ≤ maxLen) (w : World) (hr : Row eW w A l) :
    Calls Try.prog 10 #[lkV k W H p iw ih A l.length c] w fun e w' => e = .returned (.int .i64 (lkC k W H p iw ih l)) ∧ Below w.heap.size w w' := by
  have HF := Lib.hid (fun w => hasFill_any k W H p iw ih A l.length c w)
  have HI := Lib.hid (fun w hr => hasImage_any k W H p iw ih A l c hn w hr)
  have HS := Lib.hid (fun w hr => small_any iw ih A l c hl hn w hr)
  have HG := Lib.hid (fun w => rgt_any p hp w)
  have HM := Lib.hid (fun b w => formed_any b w)
  have HC : Hid (lkC k W H p iw ih l = if k = 0 then fmC (!hasF W H p && !hasI iw ih l) else if k = 1 then (if sidesB W H = true then fmC (rb p && !hasI iw ih l) else 11) else if k = 2 then fmC (smallB iw ih l && !hasF W H p) else 11) := rfl
  have HSI : Hid (sidesB W H = decide (1 ≤ W ∧ 1 ≤ H ∧ W ≤ 4096 ∧ H ≤ 4096)) := rfl
  have HR := Lib.hid hr
  clear hp hl hn hr
  generalize lkC k W H p iw ih l = R at *
  generalize hasF W H p = bf at *
  generalize hasI iw ih l = bi at *
  generalize smallB iw ih l = bs at *
  generalize rb p = br at *
  unfold lkV imV at *
  by_cases k0 : k = 0
  · subst k0
    have HC2 := Lib.hid (HC.out.trans (if_pos rfl))
    clear HC HSI HS HG
    go_enter Try.func10, Try.ntmps10
    go_wp2_with (fail)
    refine (HF.out _).mono ?_
    rintro e w1 ⟨rfl, hb⟩
    have HB : Hid (Below w.heap.size w w1) := bel1 hb
    have hK : Hid (Blk w1 w.heap.size [.int .i64 0, .int .i64 W, .int .i64 H, .int .u32 (p : Nat), .int .i64 iw, .int .i64 ih, .slice A l.length c]) := (blk7 w 0 W H p iw ih A l.length c _).below hb (by simp)
    clear hb HF
    obtain ⟨⟨c0, c1, c2, c3, c4, c5, c6⟩, -, ci⟩ := hK.out.c7
    cases bf with
    | true =>
      go_wp2_with (fail)
      refine (HM.out false _).mono ?_
      rintro e w2 ⟨rfl, hb⟩
      have HB2 : Hid (Below w.heap.size w w2) := bel2 HB.out hb
      clear hb HM HI
      go_wp2_with (fail)
      go_ret
      exact ⟨ret_num HC2.out.symm, HB2.out⟩
    | false =>
      go_wp2_with (fail)
      refine (HI.out _ (HR.out.below HB.out)).mono ?_
      rintro e w2 ⟨rfl, hb⟩
      have HB2 : Hid (Below w.heap.size w w2) := bel2 HB.out hb
      clear hb HI HB hK c0 c1 c2 c3 c4 c5 c6 ci
      go_wp2_with (fail)
      refine (HM.out (!bi) _).mono ?_
      rintro e w3 ⟨rfl, hb⟩
      have HB3 : Hid (Below w.heap.size w w3) := bel2 HB2.out hb
      clear hb HM HB2
      go_wp2_with (fail)
      go_ret
      exact ⟨ret_num HC2.out.symm, HB3.out⟩
  · have q0 : (k == 0) = false := by simp; omega
    replace HC := Lib.hid (HC.out.trans (if_neg k0))
    clear k0
    by_cases k1 : k = 1
    · subst k1
      clear q0
      have HC2 := Lib.hid (HC.out.trans (if_pos rfl))
      clear HC HS
      obtain ⟨M, hmax, hM⟩ := mx2 W H
      obtain ⟨m, hmin, hm⟩ := mn2 W H
      specialize hM 4096
      specialize hm 1
      by_cases t1 : m < 1
      · have t : decide (m < 1) = true := by simpa using t1
        have HS1 : Hid (sidesB W H = false) := HSI.out.trans (decide_eq_false (by omega))
        clear hM hm t1 HSI
        rw [HS1.out] at HC2
        clear HS1
        go_enter Try.func10, Try.ntmps10
        go_wp2_with (fail)
        go_ret
        exact ⟨ret_num HC2.out.symm, (Below.refl _ _).alloc (Nat.le_refl _) _⟩
      · have t : decide (m < 1) = false := by simpa using t1
        by_cases t2 : 4096 < M
        · have t3 : decide (4096 < M) = true := by simpa using t2
          have HS1 : Hid (sidesB W H = false) := HSI.out.trans (decide_eq_false (by omega))
          clear hM hm t1 t2 HSI
          rw [HS1.out] at HC2
          clear HS1
          go_enter Try.func10, Try.ntmps10
          go_wp2_with (fail)
          go_ret
          exact ⟨ret_num HC2.out.symm, (Below.refl _ _).alloc (Nat.le_refl _) _⟩
        · have t3 : decide (4096 < M) = false := by simpa using t2
          have HS1 : Hid (sidesB W H = true) := HSI.out.trans (decide_eq_true (by omega))
          clear hM hm t1 t2 HSI
          rw [HS1.out] at HC2
          clear HS1
          go_enter Try.func10, Try.ntmps10
          go_wp2_with (fail)
          have hb0 : Below w.heap.size w (w.alloc (.cells #[.int .i64 1, .int .i64 W, .int .i64 H, .int .u32 (p : Nat), .int .i64 iw, .int .i64 ih, .slice A l.length c] 32)) := (Below.refl _ _).alloc (Nat.le_refl _) _
          refine (HG.out _).mono ?_
          rintro e w1 ⟨rfl, hd⟩
          have HB : Hid (Below w.heap.size w w1) := hb0.trans (hd.below _)
          have hK : Hid (Blk w1 w.heap.size [.int .i64 1, .int .i64 W, .int .i64 H, .int .u32 (p : Nat), .int .i64 iw, .int .i64 ih, .slice A l.length c]) := hd.blk (blk7 w 1 W H p iw ih A l.length c _)
          clear hd HG hb0 hmax hmin t t3
          obtain ⟨⟨c0, c1, c2, c3, c4, c5, c6⟩, -, ci⟩ := hK.out.c7
          cases br with
          | false =>
            go_wp2_with (fail)
            refine (HM.out false _).mono ?_
            rintro e w2 ⟨rfl, hb⟩
            have HB2 : Hid (Below w.heap.size w w2) := bel2 HB.out hb
            clear hb HM HI
            go_wp2_with (fail)
            go_ret
            exact ⟨ret_num HC2.out.symm, HB2.out⟩
          | true =>
            go_wp2_with (fail)
            refine (HI.out _ (HR.out.below HB.out)).mono ?_
            rintro e w2 ⟨rfl, hb⟩
            have HB2 : Hid (Below w.heap.size w w2) := bel2 HB.out hb
            clear hb HI HB hK c0 c1 c2 c3 c4 c5 c6 ci
            go_wp2_with (fail)
            refine (HM.out (!bi) _).mono ?_
            rintro e w3 ⟨rfl, hb⟩
            have HB3 : Hid (Below w.heap.size w w3) := bel2 HB2.out hb
            clear hb HM HB2
            go_wp2_with (fail)
            go_ret
            exact ⟨ret_num HC2.out.symm, HB3.out⟩
    · have q1 : (k == 1) = false := by simp; omega
      replace HC := Lib.hid (HC.out.trans (if_neg k1))
      clear k1 HSI HG
      by_cases k2 : k = 2
      · subst k2
        clear q0 q1
        have HC2 := Lib.hid (HC.out.trans (if_pos rfl))
        clear HC
        go_enter Try.func10, Try.ntmps10
        go_wp2_with (fail)
        refine (HS.out _ (HR.out.alloc _)).mono ?_
        rintro e w1 ⟨rfl, hb⟩
        have HB : Hid (Below w.heap.size w w1) := bel1 hb
        have hK : Hid (Blk w1 w.heap.size [.int .i64 2, .int .i64 W, .int .i64 H, .int .u32 (p : Nat), .int .i64 iw, .int .i64 ih, .slice A l.length c]) := (blk7 w 2 W H p iw ih A l.length c _).below hb (by simp)
        clear hb HS
        obtain ⟨⟨c0, c1, c2, c3, c4, c5, c6⟩, -, ci⟩ := hK.out.c7
        cases bs with
        | false =>
          go_wp2_with (fail)
          refine (HM.out false _).mono ?_
          rintro e w2 ⟨rfl, hb⟩
          have HB2 : Hid (Below w.heap.size w w2) := bel2 HB.out hb
          clear hb HM HF
          go_wp2_with (fail)
          go_ret
          exact ⟨ret_num HC2.out.symm, HB2.out⟩
        | true =>
          go_wp2_with (fail)
          refine (HF.out _).mono ?_
          rintro e w2 ⟨rfl, hb⟩
          have HB2 : Hid (Below w.heap.size w w2) := bel2 HB.out hb
          clear hb HF HB hK c0 c1 c2 c3 c4 c5 c6 ci
          go_wp2_with (fail)
          refine (HM.out (!bf) _).mono ?_
          rintro e w3 ⟨rfl, hb⟩
          have HB3 : Hid (Below w.heap.size w w3) := bel2 HB2.out hb
          clear hb HM HB2
          go_wp2_with (fail)
          go_ret
          exact ⟨ret_num HC2.out.symm, HB3.out⟩
      · have q2 : (k == 2) = false := by simp; omega
        replace HC := Lib.hid (HC.out.trans (if_neg k2))
        clear k2 HF HI HS HM HR
        go_enter Try.func10, Try.ntmps10
        go_wp2_with (fail)
        go_ret
        exact ⟨ret_num HC.out.symm, (Below.refl _ _).alloc (Nat.le_refl _) _⟩
end Go.Proofs.Ytfmlecjobpdbbaa
