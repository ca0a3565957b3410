/-
  Layer 12: the document's with at the end; its Within, Depth, Walk.
-/
import Derived.Test.YtokochkjjlbnkaaTrC
namespace Go.Proofs.Ytokochkjjlbnkaa
open Go.RowKit trm

set_option maxRecDepth 100000 in
set_option maxHeartbeats 2000000 in
theorem dwith2 (A : Option Addr) (t : T) (c : Nat) (i p : Int) (n : Nat) (w : World) (hr : RRow w A t) (hn : t.length ≤ 10000) (hl : ¬ n < (kids t p).length) (hnn : n ≤ 10000) :
    Calls Try.prog 58 #[.slice A t.length c, .agg #[.int .i64 i, .int .i64 p], .int .i64 n] w (RowsQ (put (i, p) n t) w) := by
  have e : put (i, p) n t = t ++ [(i, p)] := by unfold put; exact dif_neg hl
  rw [e]
  clear e
  unfold RowsQ
  obtain ⟨M, hM⟩ : ∃ M, kids t p = M := ⟨_, rfl⟩
  have HC := Lib.hid (fun w hr => dkids A t c p w hr (by omega))
  rw [hM] at HC hl
  have HM := Lib.hid (And.intro hl hnn)
  have HR := Lib.hid hr
  have HN := Lib.hid hn
  clear hr hn hl hnn hM
  go_enter Try.func58, Try.ntmps58
  have hw0 : Below w.heap.size w (w.alloc (.cells #[.int .i64 i, .int .i64 p] 94)) := (Below.refl _ _).alloc (Nat.le_refl _) _
  have HW0 := Lib.hid hw0
  clear hw0
  go_wp2_with (fail)
  refine (HC.out _ (HR.out.below HW0.out)).mono ?_
  rintro e w1 ⟨v, rfl, hown, hb⟩
  obtain ⟨vA, vc, rfl, h1, h2, hrow⟩ := hown.irow
  have HB1 : Hid (Below w.heap.size w w1) := HW0.out.trans (hb.mono HW0.out.size)
  have HX : Hid (Blk w1 w.heap.size [.int .i64 i, .int .i64 p]) := (blk_new w [.int .i64 i, .int .i64 p] 94).below hb (by simp)
  clear hown h1 h2 hrow hb HC HW0
  go_wp2_with (fail)
  go_loopw [8, 9, 10] (fun v f x wr => ∃ k : Nat, k ≤ t.length ∧ x = .int .i64 k ∧ f = .bool false ∧ Hid (ROwn wr w1.heap.size v (t.take k)) ∧ Hid (Below w1.heap.size w1 wr)) (fun _ _ x _ => t.length - (intOf x).toNat)
  case atStart => exact ⟨0, Nat.zero_le _, rfl, rfl, SOwn.nil _ _, Below.refl _ _⟩
  case round =>
    obtain ⟨k, hk, rfl, rfl, HO, HB⟩ := hrel
    by_cases hlt : k < t.length
    · have t1 : decide (k < t.length) = true := by simpa using hlt
      have t2 : decide (n < M.length) = false := by simpa using HM.out.1
      obtain ⟨b, o, rA, k12⟩ := RRow.in_ (HR.out.below HB1.out) hlt
      subst rA
      have HS := Lib.hid (List.take_succ_eq_append_getElem hlt)
      have HL : Hid ((t.take k).length ≤ 10000) := by have h2 := HN.out; show _ ≤ _; rw [List.length_take]; omega
      have HK := Lib.hid (show k ≤ 10000 by have := HN.out; omega)
      obtain ⟨l1, hl1⟩ : ∃ x, t.take (k + 1) = x := ⟨_, rfl⟩
      have HL1 := Lib.hid hl1
      rw [hl1] at HS
      clear hl1
      generalize t[k] = r at *
      obtain ⟨x, y⟩ := r
      simp only at k12 HS
      have H12 := Lib.hid k12
      clear k12
      generalize t.take k = l at *
      have hnb : (n : Int) ≤ 10000 := by have := HM.out; omega
      have hkb : (k : Int) ≤ 10000 := by have := HK.out; omega
      clear HK
      go_wp2_with (fail)
      go_quiet (fail)
      have HBz0 : Hid (∀ m, Below w1.heap.size w1 (wr.drewN m)) := fun m => Below.drewN' HB.out m
      have HOz0 : Hid (∀ m, ROwn (wr.drewN m) w1.heap.size u8 l) := fun _ => HO.out
      generalize hwz : World.drewN wr _ = wz at *
      have HBz : Hid (Below w1.heap.size w1 wz) := by rw [← hwz]; exact HBz0.out _
      have HOz : Hid (ROwn wz w1.heap.size u8 l) := by rw [← hwz]; exact HOz0.out _
      obtain ⟨v', w7, hrun, own7, hgr, hat⟩ := app_row1 HOz.out x y (c := 1) (by have := HL.out; omega) HBz.out.size
      have HB7 : Hid (Below w1.heap.size w1 w7) := (HBz.out.alloc HBz.out.size _).grown hgr (by have := HBz.out.size; simp; omega) (fun j hj => (HOz.out.block hj).1)
      have HO7 : Hid (ROwn w7 w1.heap.size v' l1) := by rw [HS.out]; exact own7
      obtain ⟨g1, g2⟩ := H12.out _ HBz.out
      clear hwz own7 hgr hat HO HB HOz HBz HBz0 HOz0
      go_wp2_with (at_builtin; refine wpl_append rfl _ _ 28 28 28 rfl rfl _ _ _ _ rfl rfl hrun ?_; clear hrun)
      go_roundw
      case rel => exact ⟨k + 1, by omega, by go_num, rfl, by rw [HL1.out]; exact HO7, HB7⟩
      case measure => simp [intOf]; omega
    · obtain rfl : k = t.length := by omega
      have hO := HO.out
      rw [List.take_length] at hO
      have t1 : decide (t.length < t.length) = false := by simp
      obtain ⟨v', w7, hrun, own7, hgr, hat⟩ := app_row1 hO i p (c := 1) (by have := HN.out; omega) HB.out.size
      have HB7 : Hid (Below w1.heap.size w1 w7) := (HB.out.alloc HB.out.size _).grown hgr (by have := HB.out.size; simp; omega) (fun j hj => (hO.block hj).1)
      have HO7 : Hid (ROwn w7 w1.heap.size v' (t ++ [(i, p)])) := own7
      have HX2 : Hid (Blk wr w.heap.size [.int .i64 i, .int .i64 p]) := HX.out.below HB.out HX.out.inside
      obtain ⟨⟨x0, x1⟩, -, xi⟩ := HX2.out.c2
      clear hO HO own7 hgr hat HB
      go_wp2_with (at_builtin; refine wpl_append rfl _ _ 28 28 28 rfl rfl _ _ _ _ rfl rfl hrun ?_; clear hrun)
      go_ret
      exact ⟨_, rfl, SOwn.weaken HO7.out HB1.out.size, HB1.out.trans (HB7.out.mono HB1.out.size)⟩
theorem dwith (A : Option Addr) (t : T) (c : Nat) (i p : Int) (n : Nat) (w : World) (hr : RRow w A t) (hn : t.length ≤ 10000) (hnn : n ≤ 10000) :
    Calls Try.prog 58 #[.slice A t.length c, .agg #[.int .i64 i, .int .i64 p], .int .i64 n] w (RowsQ (put (i, p) n t) w) := by
  by_cases hl : n < (kids t p).length
  · exact dwith1 A t c i p n w hr hn hl
  · exact dwith2 A t c i p n w hr hn hl hnn

/-! ### Functions that call themselves -/
set_option maxHeartbeats 1000000 in
theorem ddepth (A : Option Addr) (t : T) (c : Nat) (ok : Ok t) (hn : t.length ≤ 10000) (k : Nat) : ∀ (i : Int) (w : World), RRow w A t → (i = 0 ∨ i ∈ ids t) → depth t i ≤ k →
    Calls Try.prog 37 #[.slice A t.length c, .int .i64 i] w fun e w' => e = .returned (.int .i64 (depth t i : Nat)) ∧ Below w.heap.size w w' := by
  have HOK := Lib.hid ok
  have HP := Lib.hid (fun i w hr => dpar A t c i w hr (by omega))
  have HN := Lib.hid hn
  clear ok hn
  have zero : ∀ (w : World), Calls Try.prog 37 #[.slice A t.length c, .int .i64 0] w fun e w' => e = .returned (.int .i64 (depth t 0 : Nat)) ∧ Below w.heap.size w w' := by
    intro w
    have HQ : Hid ((0 : Int) = (depth t 0 : Nat)) := by rw [depth_0]; rfl
    go_enter Try.func37, Try.ntmps37
    go_wp2_with (fail)
    go_ret
    exact ⟨ret_num HQ.out, Below.refl _ _⟩
  induction k with
  | zero =>
    intro i w hr hi hd
    rcases hi with rfl | hi
    · exact zero w
    · rw [depth_step HOK.out hi] at hd
      omega
  | succ k ih =>
    intro i w hr hi hd
    by_cases h0 : i = 0
    · subst h0
      exact zero w
    have hm := hi.resolve_left h0
    have hs := depth_step HOK.out hm
    have hp := HOK.out.par_ok hm
    have hlen := depth_le HOK.out hi
    have HI := Lib.hid (fun w hr => ih (par t i) w hr hp (by omega))
    have HQ : Hid ((1 : Int) + (depth t (par t i) : Nat) = (depth t i : Nat)) := by rw [hs]; show _ = _; omega
    have hb : ((depth t (par t i) : Nat) : Int) ≤ 10000 := by have := HN.out; omega
    have HPP := Lib.hid (fun w hr => HP.out i w hr)
    have HR := Lib.hid hr
    have q : (i == 0) = false := by simpa using h0
    clear hi hd hm hs hp hlen ih zero hr h0 HP
    generalize depth t (par t i) = dd at *
    generalize par t i = pp at *
    go_enter Try.func37, Try.ntmps37
    go_wp2_with (fail)
    refine (HPP.out _ HR.out).mono ?_
    rintro e w1 ⟨rfl, hb1⟩
    have HB1 := Lib.hid hb1
    clear hb1
    go_wp2_with (fail)
    refine (HI.out _ (HR.out.below HB1.out)).mono ?_
    rintro e w2 ⟨rfl, hb2⟩
    have HB2 : Hid (Below w.heap.size w w2) := HB1.out.trans (hb2.mono HB1.out.size)
    clear hb2
    go_wp2_with (fail)
    go_ret
    exact ⟨ret_num HQ.out, HB2.out⟩
set_option maxHeartbeats 1000000 in
theorem dwithin (A : Option Addr) (t : T) (c : Nat) (ok : Ok t) (hn : t.length ≤ 10000) (o : Int) (k : Nat) : ∀ (i : Int) (w : World), RRow w A t → depth t i ≤ k →
    Calls Try.prog 15 #[.slice A t.length c, .int .i64 i, .int .i64 o] w fun e w' => e = .returned (.bool (within t i o)) ∧ Below w.heap.size w w' := by
  have HOK := Lib.hid ok
  have HP := Lib.hid (fun i w hr => dpar A t c i w hr (by omega))
  have HH := Lib.hid (fun i w hr => dhas A t c i w hr (by omega))
  clear ok
  have low : ∀ (i : Int) (w : World), RRow w A t → ¬ (has t i = true ∧ has t o = true ∧ i ≠ 0) → Calls Try.prog 15 #[.slice A t.length c, .int .i64 i, .int .i64 o] w fun e w' => e = .returned (.bool (within t i o)) ∧ Below w.heap.size w w' := by
    intro i w hr h
    have HQ : Hid (within t i o = false) := by show _ = _; rw [within_step HOK.out, if_neg h]
    have H1 := Lib.hid (fun w hr => HH.out i w hr)
    have H2 := Lib.hid (fun w hr => HH.out o w hr)
    have HR := Lib.hid hr
    have HX := Lib.hid h
    clear HH HP hr h
    generalize has t i = b1 at *
    generalize has t o = b2 at *
    go_enter Try.func15, Try.ntmps15
    go_wp2_with (fail)
    refine (H1.out _ HR.out).mono ?_
    rintro e w1 ⟨rfl, hb1⟩
    have HB1 := Lib.hid hb1
    clear hb1
    cases b1 with
    | false =>
      go_wp2_with (fail)
      go_ret
      exact ⟨ret_bool HQ.out.symm, HB1.out⟩
    | true =>
      go_wp2_with (fail)
      refine (H2.out _ (HR.out.below HB1.out)).mono ?_
      rintro e w2 ⟨rfl, hb2⟩
      have HB2 : Hid (Below w.heap.size w w2) := HB1.out.trans (hb2.mono HB1.out.size)
      clear hb2
      cases b2 with
      | false =>
        go_wp2_with (fail)
        go_ret
        exact ⟨ret_bool HQ.out.symm, HB2.out⟩
      | true =>
        obtain rfl : i = 0 := Decidable.not_not.1 fun e => HX.out ⟨by trivial, by trivial, e⟩
        clear HX
        go_wp2_with (fail)
        go_ret
        exact ⟨ret_bool HQ.out.symm, HB2.out⟩
  induction k with
  | zero =>
    intro i w hr hd
    refine low i w hr ?_
    rintro ⟨h1, h2, h3⟩
    have := depth_step HOK.out ((has_iff.1 h1).resolve_left h3)
    omega
  | succ k ih =>
    intro i w hr hd
    by_cases h : has t i = true ∧ has t o = true ∧ i ≠ 0
    · obtain ⟨h1, h2, h3⟩ := h
      have hm := (has_iff.1 h1).resolve_left h3
      have hs := depth_step HOK.out hm
      have HQ : Hid (within t i o = (decide (par t i = o) || within t (par t i) o)) := by show _ = _; rw [within_step HOK.out, if_pos ⟨h1, h2, h3⟩]
      have HI := Lib.hid (fun w hr => ih (par t i) w hr (by omega))
      have H1 := Lib.hid (fun w hr => HH.out i w hr)
      have H2 := Lib.hid (fun w hr => HH.out o w hr)
      have HPP := Lib.hid (fun w hr => HP.out i w hr)
      rw [h1] at H1
      rw [h2] at H2
      have HR := Lib.hid hr
      have q : (i == 0) = false := by simpa using h3
      clear HH HP hr h1 h2 h3 ih low hs hm hd
      generalize within t i o = R at *
      generalize within t (par t i) o = R1 at *
      generalize par t i = pp at *
      go_enter Try.func15, Try.ntmps15
      go_wp2_with (fail)
      refine (H1.out _ HR.out).mono ?_
      rintro e w1 ⟨rfl, hb1⟩
      have HB1 := Lib.hid hb1
      clear hb1
      go_wp2_with (fail)
      refine (H2.out _ (HR.out.below HB1.out)).mono ?_
      rintro e w2 ⟨rfl, hb2⟩
      have HB2 : Hid (Below w.heap.size w w2) := HB1.out.trans (hb2.mono HB1.out.size)
      clear hb2
      go_wp2_with (fail)
      refine (HPP.out _ (HR.out.below HB2.out)).mono ?_
      rintro e w3 ⟨rfl, hb3⟩
      have HB3 : Hid (Below w.heap.size w w3) := HB2.out.trans (hb3.mono HB2.out.size)
      clear hb3
      by_cases e : pp = o
      · have HQ2 : Hid (R = true) := by show _ = _; rw [HQ.out, decide_eq_true e, Bool.true_or]
        have q2 : (pp == o) = true := by simpa using e
        clear HQ e
        go_wp2_with (fail)
        go_ret
        exact ⟨ret_bool HQ2.out.symm, HB3.out⟩
      · have HQ2 : Hid (R = R1) := by show _ = _; rw [HQ.out, decide_eq_false e, Bool.false_or]
        have q2 : (pp == o) = false := by simpa using e
        clear HQ e
        go_wp2_with (fail)
        refine (HI.out _ (HR.out.below HB3.out)).mono ?_
        rintro e w4 ⟨rfl, hb4⟩
        have HB4 : Hid (Below w.heap.size w w4) := HB3.out.trans (hb4.mono HB3.out.size)
        clear hb4
        go_wp2_with (fail)
        go_ret
        exact ⟨ret_bool HQ2.out.symm, HB4.out⟩
    · exact low i w hr h
end Go.Proofs.Ytokochkjjlbnkaa
