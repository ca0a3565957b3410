/-
  Layer 11: looks and nodes compared.
-/
import Derived.Test.YtfmlecjobpdbbaaNdF
import Derived.Deep.Grids
import Derived.Deep.DeepCutAuto
import Derived.Deep.CutBlock
namespace Go.Proofs.Ytfmlecjobpdbbaa
open Go.RowKit pxm imm

def eqLk (k1 W1 H1 : Int) (p1 : Nat) (iw1 ih1 : Int) (l1 : List Nat) (k2 W2 H2 : Int) (p2 : Nat) (iw2 ih2 : Int) (l2 : List Nat) : Bool := (k1 == k2) && ((W1 == W2) && ((H1 == H2) && (((p1 : Int) == (p2 : Int)) && eqB iw1 ih1 l1 iw2 ih2 l2)))
set_option maxHeartbeats 2000000 in
theorem eqlooks_any (k1 W1 H1 : Int) (p1 : Nat) (iw1 ih1 : Int) (A1 : Option Addr) (l1 : List Nat) (c1 : Nat) (k2 W2 H2 : Int) (p2 : Nat) (iw2 ih2 : Int) (A2 : Option Addr) (l2 : List Nat) (c2 : Nat) (m1 : l1.length ≤ maxLen) (m2 : l2.length ≤ maxLen) (w : World) (h1 : Row eW w A1 l1) (h2 : Row eW w A2 l2) :
    Calls Try.prog 38 #[lkV k1 W1 H1 p1 iw1 ih1 A1 l1.length c1, lkV k2 W2 H2 p2 iw2 ih2 A2 l2.length c2] w fun e w' => e = .returned (.bool (eqLk k1 W1 H1 p1 iw1 ih1 l1 k2 W2 H2 p2 iw2 ih2 l2)) ∧ Below w.heap.size w w' := by
  have HR := Lib.hid (And.intro h1 h2)
  have HE := Lib.hid (fun w h1 h2 => equal_any iw1 ih1 A1 l1 c1 iw2 ih2 A2 l2 c2 w h1 h2 m1 m2)
  have HQ : Hid (eqLk k1 W1 H1 p1 iw1 ih1 l1 k2 W2 H2 p2 iw2 ih2 l2 = ((k1 == k2) && ((W1 == W2) && ((H1 == H2) && (((p1 : Int) == (p2 : Int)) && eqB iw1 ih1 l1 iw2 ih2 l2))))) := rfl
  clear h1 h2 m1 m2
  generalize eqLk k1 W1 H1 p1 iw1 ih1 l1 k2 W2 H2 p2 iw2 ih2 l2 = R at *
  generalize eqB iw1 ih1 l1 iw2 ih2 l2 = y at *
  unfold imV at HE
  unfold lkV
  generalize hb1 : (k1 == k2) = b1 at *
  generalize hb2 : (W1 == W2) = b2 at *
  generalize hb3 : (H1 == H2) = b3 at *
  generalize hb4 : ((p1 : Int) == (p2 : Int)) = b4 at *
  have HB : Hid (Below w.heap.size w ((w.alloc (.cells #[.int .i64 k1, .int .i64 W1, .int .i64 H1, .int .u32 (p1 : Nat), .int .i64 iw1, .int .i64 ih1, .slice A1 l1.length c1] 32)).alloc (.cells #[.int .i64 k2, .int .i64 W2, .int .i64 H2, .int .u32 (p2 : Nat), .int .i64 iw2, .int .i64 ih2, .slice A2 l2.length c2] 32))) := ((Below.refl _ _).alloc (Nat.le_refl _) _).alloc (by simp) _
  cases b1 with
  | false =>
    go_enter Try.func38, Try.ntmps38
    go_wp2_with (fail)
    go_ret
    exact ⟨ret_bool HQ.out.symm, HB.out⟩
  | true =>
    cases b2 with
    | false =>
      go_enter Try.func38, Try.ntmps38
      go_wp2_with (fail)
      go_ret
      exact ⟨ret_bool HQ.out.symm, HB.out⟩
    | true =>
      cases b3 with
      | false =>
        go_enter Try.func38, Try.ntmps38
        go_wp2_with (fail)
        go_ret
        exact ⟨ret_bool HQ.out.symm, HB.out⟩
      | true =>
        cases b4 with
        | false =>
          go_enter Try.func38, Try.ntmps38
          go_wp2_with (fail)
          go_ret
          exact ⟨ret_bool HQ.out.symm, HB.out⟩
        | true =>
          go_enter Try.func38, Try.ntmps38
          go_wp2_with (fail)
          refine (HE.out _ (HR.out.1.below HB.out) (HR.out.2.below HB.out)).mono ?_
          rintro e w2 ⟨rfl, hb⟩
          have HB2 : Hid (Below w.heap.size w w2) := bel2 HB.out hb
          clear hb HE
          go_wp2_with (fail)
          go_ret
          exact ⟨ret_bool HQ.out.symm, HB2.out⟩
def eqNd (m1 : Mp) (op1 : Int) (hi1 cl1 : Bool) (r1 : Bx) (m2 : Mp) (op2 : Int) (hi2 cl2 : Bool) (r2 : Bx) (lk : Bool) : Bool := decide (m1 = m2) && (decide (r1 = r2) && ((op1 == op2) && ((hi1 == hi2) && ((cl1 == cl2) && lk))))
theorem mp_eq (r s : Mp) (w : World) : (binOp .eql 23 r.v s.v).run Try.prog w = .ok (.bool (decide (r = s))) w := by
  obtain ⟨a0, a1, a2, a3, a4, a5⟩ := r
  obtain ⟨b0, b1, b2, b3, b4, b5⟩ := s
  unfold Mp.v
  simp only
  by_cases h0 : ¬ a0 = b0
  · rw [decide_eq_false (by simp [h0])]
    have t : (a0 == b0) = false := by simpa using h0
    go_simp
  obtain rfl := Decidable.not_not.1 h0
  clear h0
  by_cases h1 : ¬ a1 = b1
  · rw [decide_eq_false (by simp [h1])]
    have t : (a1 == b1) = false := by simpa using h1
    go_simp
  obtain rfl := Decidable.not_not.1 h1
  clear h1
  by_cases h2 : ¬ a2 = b2
  · rw [decide_eq_false (by simp [h2])]
    have t : (a2 == b2) = false := by simpa using h2
    go_simp
  obtain rfl := Decidable.not_not.1 h2
  clear h2
  by_cases h3 : ¬ a3 = b3
  · rw [decide_eq_false (by simp [h3])]
    have t : (a3 == b3) = false := by simpa using h3
    go_simp
  obtain rfl := Decidable.not_not.1 h3
  clear h3
  by_cases h4 : ¬ a4 = b4
  · rw [decide_eq_false (by simp [h4])]
    have t : (a4 == b4) = false := by simpa using h4
    go_simp
  obtain rfl := Decidable.not_not.1 h4
  clear h4
  by_cases h5 : ¬ a5 = b5
  · rw [decide_eq_false (by simp [h5])]
    have t : (a5 == b5) = false := by simpa using h5
    go_simp
  obtain rfl := Decidable.not_not.1 h5
  clear h5
  simp only [decide_true]
  go_simp
set_option maxHeartbeats 2000000 in
theorem ndequal_any (m1 : Mp) (op1 : Int) (hi1 cl1 : Bool) (r1 : Bx) (k1 W1 H1 : Int) (p1 : Nat) (iw1 ih1 : Int) (A1 : Option Addr) (l1 : List Nat) (c1 : Nat) (m2 : Mp) (op2 : Int) (hi2 cl2 : Bool) (r2 : Bx) (k2 W2 H2 : Int) (p2 : Nat) (iw2 ih2 : Int) (A2 : Option Addr) (l2 : List Nat) (c2 : Nat) (n1 : l1.length ≤ maxLen) (n2 : l2.length ≤ maxLen) (w : World) (h1 : Row eW w A1 l1) (h2 : Row eW w A2 l2) :
    Calls Try.prog 19 #[ndV m1 op1 hi1 cl1 r1 k1 W1 H1 p1 iw1 ih1 A1 l1.length c1, ndV m2 op2 hi2 cl2 r2 k2 W2 H2 p2 iw2 ih2 A2 l2.length c2] w fun e w' => e = .returned (.bool (eqNd m1 op1 hi1 cl1 r1 m2 op2 hi2 cl2 r2 (eqLk k1 W1 H1 p1 iw1 ih1 l1 k2 W2 H2 p2 iw2 ih2 l2))) ∧ Below w.heap.size w w' := by
  have HR := Lib.hid (And.intro h1 h2)
  have HE := Lib.hid (fun w h1 h2 => eqlooks_any k1 W1 H1 p1 iw1 ih1 A1 l1 c1 k2 W2 H2 p2 iw2 ih2 A2 l2 c2 n1 n2 w h1 h2)
  have HQ : Hid (eqNd m1 op1 hi1 cl1 r1 m2 op2 hi2 cl2 r2 (eqLk k1 W1 H1 p1 iw1 ih1 l1 k2 W2 H2 p2 iw2 ih2 l2) = (decide (m1 = m2) && (decide (r1 = r2) && ((op1 == op2) && ((hi1 == hi2) && ((cl1 == cl2) && eqLk k1 W1 H1 p1 iw1 ih1 l1 k2 W2 H2 p2 iw2 ih2 l2)))))) := rfl
  have q1 := fun w => mp_eq m1 m2 w
  have q2 := fun w => bx_eq r1 r2 w
  clear h1 h2 n1 n2
  generalize eqNd m1 op1 hi1 cl1 r1 m2 op2 hi2 cl2 r2 (eqLk k1 W1 H1 p1 iw1 ih1 l1 k2 W2 H2 p2 iw2 ih2 l2) = R at *
  generalize eqLk k1 W1 H1 p1 iw1 ih1 l1 k2 W2 H2 p2 iw2 ih2 l2 = y at *
  unfold lkV at HE
  unfold ndV
  generalize decide (m1 = m2) = b1 at *
  generalize decide (r1 = r2) = b2 at *
  generalize hb3 : (op1 == op2) = b3 at *
  generalize hb4 : (hi1 == hi2) = b4 at *
  generalize hb5 : (cl1 == cl2) = b5 at *
  obtain ⟨ma1, mb1, mc1, md1, me1, mf1⟩ := m1
  obtain ⟨x01, y01, x11, y11⟩ := r1
  obtain ⟨ma2, mb2, mc2, md2, me2, mf2⟩ := m2
  obtain ⟨x02, y02, x12, y12⟩ := r2
  unfold Mp.v at q1
  unfold Bx.v at q2
  simp only at q1 q2 ⊢
  have HB : Hid (Below w.heap.size w ((w.alloc (.cells #[.int .i64 ma1, .int .i64 mb1, .int .i64 mc1, .int .i64 md1, .int .i64 me1, .int .i64 mf1, .int .i64 op1, .bool hi1, .bool cl1, .int .i64 x01, .int .i64 y01, .int .i64 x11, .int .i64 y11, .int .i64 k1, .int .i64 W1, .int .i64 H1, .int .u32 (p1 : Nat), .int .i64 iw1, .int .i64 ih1, .slice A1 l1.length c1] 34)).alloc (.cells #[.int .i64 ma2, .int .i64 mb2, .int .i64 mc2, .int .i64 md2, .int .i64 me2, .int .i64 mf2, .int .i64 op2, .bool hi2, .bool cl2, .int .i64 x02, .int .i64 y02, .int .i64 x12, .int .i64 y12, .int .i64 k2, .int .i64 W2, .int .i64 H2, .int .u32 (p2 : Nat), .int .i64 iw2, .int .i64 ih2, .slice A2 l2.length c2] 34))) := ((Below.refl _ _).alloc (Nat.le_refl _) _).alloc (by simp) _
  have HK1 : Hid (Blk ((w.alloc (.cells #[.int .i64 ma1, .int .i64 mb1, .int .i64 mc1, .int .i64 md1, .int .i64 me1, .int .i64 mf1, .int .i64 op1, .bool hi1, .bool cl1, .int .i64 x01, .int .i64 y01, .int .i64 x11, .int .i64 y11, .int .i64 k1, .int .i64 W1, .int .i64 H1, .int .u32 (p1 : Nat), .int .i64 iw1, .int .i64 ih1, .slice A1 l1.length c1] 34)).alloc (.cells #[.int .i64 ma2, .int .i64 mb2, .int .i64 mc2, .int .i64 md2, .int .i64 me2, .int .i64 mf2, .int .i64 op2, .bool hi2, .bool cl2, .int .i64 x02, .int .i64 y02, .int .i64 x12, .int .i64 y12, .int .i64 k2, .int .i64 W2, .int .i64 H2, .int .u32 (p2 : Nat), .int .i64 iw2, .int .i64 ih2, .slice A2 l2.length c2] 34)) w.heap.size [.int .i64 ma1, .int .i64 mb1, .int .i64 mc1, .int .i64 md1, .int .i64 me1, .int .i64 mf1, .int .i64 op1, .bool hi1, .bool cl1, .int .i64 x01, .int .i64 y01, .int .i64 x11, .int .i64 y11, .int .i64 k1, .int .i64 W1, .int .i64 H1, .int .u32 (p1 : Nat), .int .i64 iw1, .int .i64 ih1, .slice A1 l1.length c1]) := (blk_new w [.int .i64 ma1, .int .i64 mb1, .int .i64 mc1, .int .i64 md1, .int .i64 me1, .int .i64 mf1, .int .i64 op1, .bool hi1, .bool cl1, .int .i64 x01, .int .i64 y01, .int .i64 x11, .int .i64 y11, .int .i64 k1, .int .i64 W1, .int .i64 H1, .int .u32 (p1 : Nat), .int .i64 iw1, .int .i64 ih1, .slice A1 l1.length c1] _).alloc _
  have HK2 : Hid (Blk ((w.alloc (.cells #[.int .i64 ma1, .int .i64 mb1, .int .i64 mc1, .int .i64 md1, .int .i64 me1, .int .i64 mf1, .int .i64 op1, .bool hi1, .bool cl1, .int .i64 x01, .int .i64 y01, .int .i64 x11, .int .i64 y11, .int .i64 k1, .int .i64 W1, .int .i64 H1, .int .u32 (p1 : Nat), .int .i64 iw1, .int .i64 ih1, .slice A1 l1.length c1] 34)).alloc (.cells #[.int .i64 ma2, .int .i64 mb2, .int .i64 mc2, .int .i64 md2, .int .i64 me2, .int .i64 mf2, .int .i64 op2, .bool hi2, .bool cl2, .int .i64 x02, .int .i64 y02, .int .i64 x12, .int .i64 y12, .int .i64 k2, .int .i64 W2, .int .i64 H2, .int .u32 (p2 : Nat), .int .i64 iw2, .int .i64 ih2, .slice A2 l2.length c2] 34)) (w.heap.size + 1) [.int .i64 ma2, .int .i64 mb2, .int .i64 mc2, .int .i64 md2, .int .i64 me2, .int .i64 mf2, .int .i64 op2, .bool hi2, .bool cl2, .int .i64 x02, .int .i64 y02, .int .i64 x12, .int .i64 y12, .int .i64 k2, .int .i64 W2, .int .i64 H2, .int .u32 (p2 : Nat), .int .i64 iw2, .int .i64 ih2, .slice A2 l2.length c2]) := blk_at (w.alloc _) _ (by simp) [.int .i64 ma2, .int .i64 mb2, .int .i64 mc2, .int .i64 md2, .int .i64 me2, .int .i64 mf2, .int .i64 op2, .bool hi2, .bool cl2, .int .i64 x02, .int .i64 y02, .int .i64 x12, .int .i64 y12, .int .i64 k2, .int .i64 W2, .int .i64 H2, .int .u32 (p2 : Nat), .int .i64 iw2, .int .i64 ih2, .slice A2 l2.length c2] _
  cases b1 with
  | false =>
    go_enter Try.func19, Try.ntmps19
    go_upto_region 1 with (fail)
    generalize ((w.alloc (.cells #[.int .i64 ma1, .int .i64 mb1, .int .i64 mc1, .int .i64 md1, .int .i64 me1, .int .i64 mf1, .int .i64 op1, .bool hi1, .bool cl1, .int .i64 x01, .int .i64 y01, .int .i64 x11, .int .i64 y11, .int .i64 k1, .int .i64 W1, .int .i64 H1, .int .u32 (p1 : Nat), .int .i64 iw1, .int .i64 ih1, .slice A1 l1.length c1] 34)).alloc (.cells #[.int .i64 ma2, .int .i64 mb2, .int .i64 mc2, .int .i64 md2, .int .i64 me2, .int .i64 mf2, .int .i64 op2, .bool hi2, .bool cl2, .int .i64 x02, .int .i64 y02, .int .i64 x12, .int .i64 y12, .int .i64 k2, .int .i64 W2, .int .i64 H2, .int .u32 (p2 : Nat), .int .i64 iw2, .int .i64 ih2, .slice A2 l2.length c2] 34)) = wz at *
    have c6 : wz.cell? ⟨w.heap.size, 6, none⟩ = some (.int .i64 op1) := HK1.out.cell 6
    have c7 : wz.cell? ⟨w.heap.size, 7, none⟩ = some (.bool hi1) := HK1.out.cell 7
    have c8 : wz.cell? ⟨w.heap.size, 8, none⟩ = some (.bool cl1) := HK1.out.cell 8
    have d6 : wz.cell? ⟨w.heap.size + 1, 6, none⟩ = some (.int .i64 op2) := HK2.out.cell 6
    have d7 : wz.cell? ⟨w.heap.size + 1, 7, none⟩ = some (.bool hi2) := HK2.out.cell 7
    have d8 : wz.cell? ⟨w.heap.size + 1, 8, none⟩ = some (.bool cl2) := HK2.out.cell 8
    have i1 := HK1.out.inside
    have i2 := HK2.out.inside
    go_wp2_with (first | (with_reducible show wpList _ _ _ (Oper.mk _ (Op.load _ _) _ _ _ _ :: _) _ _; first | (refine wpl_take 23 _ rfl rfl _ 0 rfl _ HK1.out [.int .i64 ma1, .int .i64 mb1, .int .i64 mc1, .int .i64 md1, .int .i64 me1, .int .i64 mf1] rfl _ Try.underlying23 rfl (by kernel_rfl) ?_) | (refine wpl_take 23 _ rfl rfl _ 0 rfl _ HK2.out [.int .i64 ma2, .int .i64 mb2, .int .i64 mc2, .int .i64 md2, .int .i64 me2, .int .i64 mf2] rfl _ Try.underlying23 rfl (by kernel_rfl) ?_) | (refine wpl_take 25 _ rfl rfl _ 9 rfl _ HK1.out [.int .i64 x01, .int .i64 y01, .int .i64 x11, .int .i64 y11] rfl _ Try.underlying25 rfl (by kernel_rfl) ?_) | (refine wpl_take 25 _ rfl rfl _ 9 rfl _ HK2.out [.int .i64 x02, .int .i64 y02, .int .i64 x12, .int .i64 y12] rfl _ Try.underlying25 rfl (by kernel_rfl) ?_) | (refine wpl_take 32 _ rfl rfl _ 13 rfl _ HK1.out [.int .i64 k1, .int .i64 W1, .int .i64 H1, .int .u32 (p1 : Nat), .int .i64 iw1, .int .i64 ih1, .slice A1 l1.length c1] rfl _ Try.underlying32 rfl (by kernel_rfl) ?_) | (refine wpl_take 32 _ rfl rfl _ 13 rfl _ HK2.out [.int .i64 k2, .int .i64 W2, .int .i64 H2, .int .u32 (p2 : Nat), .int .i64 iw2, .int .i64 ih2, .slice A2 l2.length c2] rfl _ Try.underlying32 rfl (by kernel_rfl) ?_)))
    go_ret
    exact ⟨ret_bool HQ.out.symm, HB.out⟩
  | true =>
    cases b2 with
    | false =>
      go_enter Try.func19, Try.ntmps19
      go_upto_region 1 with (fail)
      generalize ((w.alloc (.cells #[.int .i64 ma1, .int .i64 mb1, .int .i64 mc1, .int .i64 md1, .int .i64 me1, .int .i64 mf1, .int .i64 op1, .bool hi1, .bool cl1, .int .i64 x01, .int .i64 y01, .int .i64 x11, .int .i64 y11, .int .i64 k1, .int .i64 W1, .int .i64 H1, .int .u32 (p1 : Nat), .int .i64 iw1, .int .i64 ih1, .slice A1 l1.length c1] 34)).alloc (.cells #[.int .i64 ma2, .int .i64 mb2, .int .i64 mc2, .int .i64 md2, .int .i64 me2, .int .i64 mf2, .int .i64 op2, .bool hi2, .bool cl2, .int .i64 x02, .int .i64 y02, .int .i64 x12, .int .i64 y12, .int .i64 k2, .int .i64 W2, .int .i64 H2, .int .u32 (p2 : Nat), .int .i64 iw2, .int .i64 ih2, .slice A2 l2.length c2] 34)) = wz at *
      have c6 : wz.cell? ⟨w.heap.size, 6, none⟩ = some (.int .i64 op1) := HK1.out.cell 6
      have c7 : wz.cell? ⟨w.heap.size, 7, none⟩ = some (.bool hi1) := HK1.out.cell 7
      have c8 : wz.cell? ⟨w.heap.size, 8, none⟩ = some (.bool cl1) := HK1.out.cell 8
      have d6 : wz.cell? ⟨w.heap.size + 1, 6, none⟩ = some (.int .i64 op2) := HK2.out.cell 6
      have d7 : wz.cell? ⟨w.heap.size + 1, 7, none⟩ = some (.bool hi2) := HK2.out.cell 7
      have d8 : wz.cell? ⟨w.heap.size + 1, 8, none⟩ = some (.bool cl2) := HK2.out.cell 8
      have i1 := HK1.out.inside
      have i2 := HK2.out.inside
      go_wp2_with (first | (with_reducible show wpList _ _ _ (Oper.mk _ (Op.load _ _) _ _ _ _ :: _) _ _; first | (refine wpl_take 23 _ rfl rfl _ 0 rfl _ HK1.out [.int .i64 ma1, .int .i64 mb1, .int .i64 mc1, .int .i64 md1, .int .i64 me1, .int .i64 mf1] rfl _ Try.underlying23 rfl (by kernel_rfl) ?_) | (refine wpl_take 23 _ rfl rfl _ 0 rfl _ HK2.out [.int .i64 ma2, .int .i64 mb2, .int .i64 mc2, .int .i64 md2, .int .i64 me2, .int .i64 mf2] rfl _ Try.underlying23 rfl (by kernel_rfl) ?_) | (refine wpl_take 25 _ rfl rfl _ 9 rfl _ HK1.out [.int .i64 x01, .int .i64 y01, .int .i64 x11, .int .i64 y11] rfl _ Try.underlying25 rfl (by kernel_rfl) ?_) | (refine wpl_take 25 _ rfl rfl _ 9 rfl _ HK2.out [.int .i64 x02, .int .i64 y02, .int .i64 x12, .int .i64 y12] rfl _ Try.underlying25 rfl (by kernel_rfl) ?_) | (refine wpl_take 32 _ rfl rfl _ 13 rfl _ HK1.out [.int .i64 k1, .int .i64 W1, .int .i64 H1, .int .u32 (p1 : Nat), .int .i64 iw1, .int .i64 ih1, .slice A1 l1.length c1] rfl _ Try.underlying32 rfl (by kernel_rfl) ?_) | (refine wpl_take 32 _ rfl rfl _ 13 rfl _ HK2.out [.int .i64 k2, .int .i64 W2, .int .i64 H2, .int .u32 (p2 : Nat), .int .i64 iw2, .int .i64 ih2, .slice A2 l2.length c2] rfl _ Try.underlying32 rfl (by kernel_rfl) ?_)))
      go_ret
      exact ⟨ret_bool HQ.out.symm, HB.out⟩
    | true =>
      cases b3 with
      | false =>
        go_enter Try.func19, Try.ntmps19
        go_upto_region 1 with (fail)
        generalize ((w.alloc (.cells #[.int .i64 ma1, .int .i64 mb1, .int .i64 mc1, .int .i64 md1, .int .i64 me1, .int .i64 mf1, .int .i64 op1, .bool hi1, .bool cl1, .int .i64 x01, .int .i64 y01, .int .i64 x11, .int .i64 y11, .int .i64 k1, .int .i64 W1, .int .i64 H1, .int .u32 (p1 : Nat), .int .i64 iw1, .int .i64 ih1, .slice A1 l1.length c1] 34)).alloc (.cells #[.int .i64 ma2, .int .i64 mb2, .int .i64 mc2, .int .i64 md2, .int .i64 me2, .int .i64 mf2, .int .i64 op2, .bool hi2, .bool cl2, .int .i64 x02, .int .i64 y02, .int .i64 x12, .int .i64 y12, .int .i64 k2, .int .i64 W2, .int .i64 H2, .int .u32 (p2 : Nat), .int .i64 iw2, .int .i64 ih2, .slice A2 l2.length c2] 34)) = wz at *
        have c6 : wz.cell? ⟨w.heap.size, 6, none⟩ = some (.int .i64 op1) := HK1.out.cell 6
        have c7 : wz.cell? ⟨w.heap.size, 7, none⟩ = some (.bool hi1) := HK1.out.cell 7
        have c8 : wz.cell? ⟨w.heap.size, 8, none⟩ = some (.bool cl1) := HK1.out.cell 8
        have d6 : wz.cell? ⟨w.heap.size + 1, 6, none⟩ = some (.int .i64 op2) := HK2.out.cell 6
        have d7 : wz.cell? ⟨w.heap.size + 1, 7, none⟩ = some (.bool hi2) := HK2.out.cell 7
        have d8 : wz.cell? ⟨w.heap.size + 1, 8, none⟩ = some (.bool cl2) := HK2.out.cell 8
        have i1 := HK1.out.inside
        have i2 := HK2.out.inside
        go_wp2_with (first | (with_reducible show wpList _ _ _ (Oper.mk _ (Op.load _ _) _ _ _ _ :: _) _ _; first | (refine wpl_take 23 _ rfl rfl _ 0 rfl _ HK1.out [.int .i64 ma1, .int .i64 mb1, .int .i64 mc1, .int .i64 md1, .int .i64 me1, .int .i64 mf1] rfl _ Try.underlying23 rfl (by kernel_rfl) ?_) | (refine wpl_take 23 _ rfl rfl _ 0 rfl _ HK2.out [.int .i64 ma2, .int .i64 mb2, .int .i64 mc2, .int .i64 md2, .int .i64 me2, .int .i64 mf2] rfl _ Try.underlying23 rfl (by kernel_rfl) ?_) | (refine wpl_take 25 _ rfl rfl _ 9 rfl _ HK1.out [.int .i64 x01, .int .i64 y01, .int .i64 x11, .int .i64 y11] rfl _ Try.underlying25 rfl (by kernel_rfl) ?_) | (refine wpl_take 25 _ rfl rfl _ 9 rfl _ HK2.out [.int .i64 x02, .int .i64 y02, .int .i64 x12, .int .i64 y12] rfl _ Try.underlying25 rfl (by kernel_rfl) ?_) | (refine wpl_take 32 _ rfl rfl _ 13 rfl _ HK1.out [.int .i64 k1, .int .i64 W1, .int .i64 H1, .int .u32 (p1 : Nat), .int .i64 iw1, .int .i64 ih1, .slice A1 l1.length c1] rfl _ Try.underlying32 rfl (by kernel_rfl) ?_) | (refine wpl_take 32 _ rfl rfl _ 13 rfl _ HK2.out [.int .i64 k2, .int .i64 W2, .int .i64 H2, .int .u32 (p2 : Nat), .int .i64 iw2, .int .i64 ih2, .slice A2 l2.length c2] rfl _ Try.underlying32 rfl (by kernel_rfl) ?_)))
        go_ret
        exact ⟨ret_bool HQ.out.symm, HB.out⟩
      | true =>
        cases b4 with
        | false =>
          go_enter Try.func19, Try.ntmps19
          go_upto_region 1 with (fail)
          generalize ((w.alloc (.cells #[.int .i64 ma1, .int .i64 mb1, .int .i64 mc1, .int .i64 md1, .int .i64 me1, .int .i64 mf1, .int .i64 op1, .bool hi1, .bool cl1, .int .i64 x01, .int .i64 y01, .int .i64 x11, .int .i64 y11, .int .i64 k1, .int .i64 W1, .int .i64 H1, .int .u32 (p1 : Nat), .int .i64 iw1, .int .i64 ih1, .slice A1 l1.length c1] 34)).alloc (.cells #[.int .i64 ma2, .int .i64 mb2, .int .i64 mc2, .int .i64 md2, .int .i64 me2, .int .i64 mf2, .int .i64 op2, .bool hi2, .bool cl2, .int .i64 x02, .int .i64 y02, .int .i64 x12, .int .i64 y12, .int .i64 k2, .int .i64 W2, .int .i64 H2, .int .u32 (p2 : Nat), .int .i64 iw2, .int .i64 ih2, .slice A2 l2.length c2] 34)) = wz at *
          have c6 : wz.cell? ⟨w.heap.size, 6, none⟩ = some (.int .i64 op1) := HK1.out.cell 6
          have c7 : wz.cell? ⟨w.heap.size, 7, none⟩ = some (.bool hi1) := HK1.out.cell 7
          have c8 : wz.cell? ⟨w.heap.size, 8, none⟩ = some (.bool cl1) := HK1.out.cell 8
          have d6 : wz.cell? ⟨w.heap.size + 1, 6, none⟩ = some (.int .i64 op2) := HK2.out.cell 6
          have d7 : wz.cell? ⟨w.heap.size + 1, 7, none⟩ = some (.bool hi2) := HK2.out.cell 7
          have d8 : wz.cell? ⟨w.heap.size + 1, 8, none⟩ = some (.bool cl2) := HK2.out.cell 8
          have i1 := HK1.out.inside
          have i2 := HK2.out.inside
          go_wp2_with (first | (with_reducible show wpList _ _ _ (Oper.mk _ (Op.load _ _) _ _ _ _ :: _) _ _; first | (refine wpl_take 23 _ rfl rfl _ 0 rfl _ HK1.out [.int .i64 ma1, .int .i64 mb1, .int .i64 mc1, .int .i64 md1, .int .i64 me1, .int .i64 mf1] rfl _ Try.underlying23 rfl (by kernel_rfl) ?_) | (refine wpl_take 23 _ rfl rfl _ 0 rfl _ HK2.out [.int .i64 ma2, .int .i64 mb2, .int .i64 mc2, .int .i64 md2, .int .i64 me2, .int .i64 mf2] rfl _ Try.underlying23 rfl (by kernel_rfl) ?_) | (refine wpl_take 25 _ rfl rfl _ 9 rfl _ HK1.out [.int .i64 x01, .int .i64 y01, .int .i64 x11, .int .i64 y11] rfl _ Try.underlying25 rfl (by kernel_rfl) ?_) | (refine wpl_take 25 _ rfl rfl _ 9 rfl _ HK2.out [.int .i64 x02, .int .i64 y02, .int .i64 x12, .int .i64 y12] rfl _ Try.underlying25 rfl (by kernel_rfl) ?_) | (refine wpl_take 32 _ rfl rfl _ 13 rfl _ HK1.out [.int .i64 k1, .int .i64 W1, .int .i64 H1, .int .u32 (p1 : Nat), .int .i64 iw1, .int .i64 ih1, .slice A1 l1.length c1] rfl _ Try.underlying32 rfl (by kernel_rfl) ?_) | (refine wpl_take 32 _ rfl rfl _ 13 rfl _ HK2.out [.int .i64 k2, .int .i64 W2, .int .i64 H2, .int .u32 (p2 : Nat), .int .i64 iw2, .int .i64 ih2, .slice A2 l2.length c2] rfl _ Try.underlying32 rfl (by kernel_rfl) ?_)))
          go_ret
          exact ⟨ret_bool HQ.out.symm, HB.out⟩
        | true =>
          cases b5 with
          | false =>
            go_enter Try.func19, Try.ntmps19
            go_upto_region 1 with (fail)
            generalize ((w.alloc (.cells #[.int .i64 ma1, .int .i64 mb1, .int .i64 mc1, .int .i64 md1, .int .i64 me1, .int .i64 mf1, .int .i64 op1, .bool hi1, .bool cl1, .int .i64 x01, .int .i64 y01, .int .i64 x11, .int .i64 y11, .int .i64 k1, .int .i64 W1, .int .i64 H1, .int .u32 (p1 : Nat), .int .i64 iw1, .int .i64 ih1, .slice A1 l1.length c1] 34)).alloc (.cells #[.int .i64 ma2, .int .i64 mb2, .int .i64 mc2, .int .i64 md2, .int .i64 me2, .int .i64 mf2, .int .i64 op2, .bool hi2, .bool cl2, .int .i64 x02, .int .i64 y02, .int .i64 x12, .int .i64 y12, .int .i64 k2, .int .i64 W2, .int .i64 H2, .int .u32 (p2 : Nat), .int .i64 iw2, .int .i64 ih2, .slice A2 l2.length c2] 34)) = wz at *
            have c6 : wz.cell? ⟨w.heap.size, 6, none⟩ = some (.int .i64 op1) := HK1.out.cell 6
            have c7 : wz.cell? ⟨w.heap.size, 7, none⟩ = some (.bool hi1) := HK1.out.cell 7
            have c8 : wz.cell? ⟨w.heap.size, 8, none⟩ = some (.bool cl1) := HK1.out.cell 8
            have d6 : wz.cell? ⟨w.heap.size + 1, 6, none⟩ = some (.int .i64 op2) := HK2.out.cell 6
            have d7 : wz.cell? ⟨w.heap.size + 1, 7, none⟩ = some (.bool hi2) := HK2.out.cell 7
            have d8 : wz.cell? ⟨w.heap.size + 1, 8, none⟩ = some (.bool cl2) := HK2.out.cell 8
            have i1 := HK1.out.inside
            have i2 := HK2.out.inside
            go_wp2_with (first | (with_reducible show wpList _ _ _ (Oper.mk _ (Op.load _ _) _ _ _ _ :: _) _ _; first | (refine wpl_take 23 _ rfl rfl _ 0 rfl _ HK1.out [.int .i64 ma1, .int .i64 mb1, .int .i64 mc1, .int .i64 md1, .int .i64 me1, .int .i64 mf1] rfl _ Try.underlying23 rfl (by kernel_rfl) ?_) | (refine wpl_take 23 _ rfl rfl _ 0 rfl _ HK2.out [.int .i64 ma2, .int .i64 mb2, .int .i64 mc2, .int .i64 md2, .int .i64 me2, .int .i64 mf2] rfl _ Try.underlying23 rfl (by kernel_rfl) ?_) | (refine wpl_take 25 _ rfl rfl _ 9 rfl _ HK1.out [.int .i64 x01, .int .i64 y01, .int .i64 x11, .int .i64 y11] rfl _ Try.underlying25 rfl (by kernel_rfl) ?_) | (refine wpl_take 25 _ rfl rfl _ 9 rfl _ HK2.out [.int .i64 x02, .int .i64 y02, .int .i64 x12, .int .i64 y12] rfl _ Try.underlying25 rfl (by kernel_rfl) ?_) | (refine wpl_take 32 _ rfl rfl _ 13 rfl _ HK1.out [.int .i64 k1, .int .i64 W1, .int .i64 H1, .int .u32 (p1 : Nat), .int .i64 iw1, .int .i64 ih1, .slice A1 l1.length c1] rfl _ Try.underlying32 rfl (by kernel_rfl) ?_) | (refine wpl_take 32 _ rfl rfl _ 13 rfl _ HK2.out [.int .i64 k2, .int .i64 W2, .int .i64 H2, .int .u32 (p2 : Nat), .int .i64 iw2, .int .i64 ih2, .slice A2 l2.length c2] rfl _ Try.underlying32 rfl (by kernel_rfl) ?_)))
            go_ret
            exact ⟨ret_bool HQ.out.symm, HB.out⟩
          | true =>
            go_enter Try.func19, Try.ntmps19
            go_upto_region 1 with (fail)
            generalize ((w.alloc (.cells #[.int .i64 ma1, .int .i64 mb1, .int .i64 mc1, .int .i64 md1, .int .i64 me1, .int .i64 mf1, .int .i64 op1, .bool hi1, .bool cl1, .int .i64 x01, .int .i64 y01, .int .i64 x11, .int .i64 y11, .int .i64 k1, .int .i64 W1, .int .i64 H1, .int .u32 (p1 : Nat), .int .i64 iw1, .int .i64 ih1, .slice A1 l1.length c1] 34)).alloc (.cells #[.int .i64 ma2, .int .i64 mb2, .int .i64 mc2, .int .i64 md2, .int .i64 me2, .int .i64 mf2, .int .i64 op2, .bool hi2, .bool cl2, .int .i64 x02, .int .i64 y02, .int .i64 x12, .int .i64 y12, .int .i64 k2, .int .i64 W2, .int .i64 H2, .int .u32 (p2 : Nat), .int .i64 iw2, .int .i64 ih2, .slice A2 l2.length c2] 34)) = wz at *
            have c6 : wz.cell? ⟨w.heap.size, 6, none⟩ = some (.int .i64 op1) := HK1.out.cell 6
            have c7 : wz.cell? ⟨w.heap.size, 7, none⟩ = some (.bool hi1) := HK1.out.cell 7
            have c8 : wz.cell? ⟨w.heap.size, 8, none⟩ = some (.bool cl1) := HK1.out.cell 8
            have d6 : wz.cell? ⟨w.heap.size + 1, 6, none⟩ = some (.int .i64 op2) := HK2.out.cell 6
            have d7 : wz.cell? ⟨w.heap.size + 1, 7, none⟩ = some (.bool hi2) := HK2.out.cell 7
            have d8 : wz.cell? ⟨w.heap.size + 1, 8, none⟩ = some (.bool cl2) := HK2.out.cell 8
            have i1 := HK1.out.inside
            have i2 := HK2.out.inside
            go_wp2_with (first | (with_reducible show wpList _ _ _ (Oper.mk _ (Op.load _ _) _ _ _ _ :: _) _ _; first | (refine wpl_take 23 _ rfl rfl _ 0 rfl _ HK1.out [.int .i64 ma1, .int .i64 mb1, .int .i64 mc1, .int .i64 md1, .int .i64 me1, .int .i64 mf1] rfl _ Try.underlying23 rfl (by kernel_rfl) ?_) | (refine wpl_take 23 _ rfl rfl _ 0 rfl _ HK2.out [.int .i64 ma2, .int .i64 mb2, .int .i64 mc2, .int .i64 md2, .int .i64 me2, .int .i64 mf2] rfl _ Try.underlying23 rfl (by kernel_rfl) ?_) | (refine wpl_take 25 _ rfl rfl _ 9 rfl _ HK1.out [.int .i64 x01, .int .i64 y01, .int .i64 x11, .int .i64 y11] rfl _ Try.underlying25 rfl (by kernel_rfl) ?_) | (refine wpl_take 25 _ rfl rfl _ 9 rfl _ HK2.out [.int .i64 x02, .int .i64 y02, .int .i64 x12, .int .i64 y12] rfl _ Try.underlying25 rfl (by kernel_rfl) ?_) | (refine wpl_take 32 _ rfl rfl _ 13 rfl _ HK1.out [.int .i64 k1, .int .i64 W1, .int .i64 H1, .int .u32 (p1 : Nat), .int .i64 iw1, .int .i64 ih1, .slice A1 l1.length c1] rfl _ Try.underlying32 rfl (by kernel_rfl) ?_) | (refine wpl_take 32 _ rfl rfl _ 13 rfl _ HK2.out [.int .i64 k2, .int .i64 W2, .int .i64 H2, .int .u32 (p2 : Nat), .int .i64 iw2, .int .i64 ih2, .slice A2 l2.length c2] rfl _ Try.underlying32 rfl (by kernel_rfl) ?_)))
            refine (HE.out _ (HR.out.1.below HB.out) (HR.out.2.below HB.out)).mono ?_
            rintro e w2 ⟨rfl, hb⟩
            have HB2 : Hid (Below w.heap.size w w2) := bel2 HB.out hb
            clear hb HE
            go_wp2_with (fail)
            go_ret
            exact ⟨ret_bool HQ.out.symm, HB2.out⟩
end Go.Proofs.Ytfmlecjobpdbbaa
