/-
  Layer 8: values compared; the fixed answer.
-/
import Derived.Test.YtmbfkaodoankaaaAfI
import Derived.ChangeKeysEq
namespace Go.Proofs.Ytmbfkaodoankaaa
open Go.RowKit

theorem pt_eq (r s : Pt) (w : World) : (binOp .eql 25 r.v s.v).run Try.prog w = .ok (.bool (decide (r = s))) w := by
  obtain ⟨a0, a1⟩ := r
  obtain ⟨b0, b1⟩ := s
  unfold Pt.v
  simp only
  by_cases h0 : ¬ a0 = b0
  · rw [decide_eq_false (by simp [h0])]
    have t : (a0 == b0) = false := by simpa using h0
    go_simp
  obtain rfl := Decidable.not_not.1 h0
  clear h0
  by_cases h1 : ¬ a1 = b1
  · rw [decide_eq_false (by simp [h1])]
    have t : (a1 == b1) = false := by simpa using h1
    go_simp
  obtain rfl := Decidable.not_not.1 h1
  clear h1
  simp only [decide_true]
  go_simp
theorem pt_neq (r s : Pt) (w : World) : (binOp .neq 25 r.v s.v).run Try.prog w = .ok (.bool (!decide (r = s))) w := by
  obtain ⟨a0, a1⟩ := r
  obtain ⟨b0, b1⟩ := s
  unfold Pt.v
  simp only
  by_cases h0 : ¬ a0 = b0
  · rw [decide_eq_false (by simp [h0])]
    have t : (a0 == b0) = false := by simpa using h0
    go_simp
  obtain rfl := Decidable.not_not.1 h0
  clear h0
  by_cases h1 : ¬ a1 = b1
  · rw [decide_eq_false (by simp [h1])]
    have t : (a1 == b1) = false := by simpa using h1
    go_simp
  obtain rfl := Decidable.not_not.1 h1
  clear h1
  simp only [decide_true]
  go_simp
theorem mp_eq (r s : Mp) (w : World) : (binOp .eql 23 r.v s.v).run Try.prog w = .ok (.bool (decide (r = s))) w := by
  obtain ⟨a0, a1, a2, a3, a4, a5⟩ := r
  obtain ⟨b0, b1, b2, b3, b4, b5⟩ := s
  unfold Mp.v
  simp only
  by_cases h0 : ¬ a0 = b0
  · rw [decide_eq_false (by simp [h0])]
    have t : (a0 == b0) = false := by simpa using h0
    go_simp
  obtain rfl := Decidable.not_not.1 h0
  clear h0
  by_cases h1 : ¬ a1 = b1
  · rw [decide_eq_false (by simp [h1])]
    have t : (a1 == b1) = false := by simpa using h1
    go_simp
  obtain rfl := Decidable.not_not.1 h1
  clear h1
  by_cases h2 : ¬ a2 = b2
  · rw [decide_eq_false (by simp [h2])]
    have t : (a2 == b2) = false := by simpa using h2
    go_simp
  obtain rfl := Decidable.not_not.1 h2
  clear h2
  by_cases h3 : ¬ a3 = b3
  · rw [decide_eq_false (by simp [h3])]
    have t : (a3 == b3) = false := by simpa using h3
    go_simp
  obtain rfl := Decidable.not_not.1 h3
  clear h3
  by_cases h4 : ¬ a4 = b4
  · rw [decide_eq_false (by simp [h4])]
    have t : (a4 == b4) = false := by simpa using h4
    go_simp
  obtain rfl := Decidable.not_not.1 h4
  clear h4
  by_cases h5 : ¬ a5 = b5
  · rw [decide_eq_false (by simp [h5])]
    have t : (a5 == b5) = false := by simpa using h5
    go_simp
  obtain rfl := Decidable.not_not.1 h5
  clear h5
  simp only [decide_true]
  go_simp

theorem arr_same (m : Mp) (w : World) : (binOp .eql 28 m.v m.v).run Try.prog w = .ok (.bool true) w := by
  obtain ⟨a, b, c, d, e, f⟩ := m
  unfold Mp.v
  simp only
  obtain ⟨i, hi⟩ : ∃ i, Try.prog.info? 2 = some i := ⟨_, rfl⟩
  have hc : Try.prog.cellsOf 2 = 1 := by kernel_rfl
  have h := run_equalIn_array (P := Try.prog) w 9999 #[.int .i64 a, .int .i64 b, .int .i64 c, .int .i64 d, .int .i64 e, .int .i64 f] #[.int .i64 a, .int .i64 b, .int .i64 c, .int .i64 d, .int .i64 e, .int .i64 f] Try.underlying28 hi
  rw [hc] at h
  rw [run_eql_struct, h]
  simp [Op.eqItems, List.range, List.range.loop, part, go_sem]

theorem aw_1 : Mp.thens ⟨131072, 0, 0, 131072, 0, 0⟩ [⟨65536, 0, 0, 65536, 65536, 0⟩] = (⟨131072, 0, 0, 131072, 65536, 0⟩, 0) := by decide +kernel
theorem aw_2 : Mp.take ⟨131072, 0, 0, 131072, 65536, 0⟩ ⟨196608, 262144⟩ = ⟨458752, 524288⟩ ∧ Mp.takes ⟨131072, 0, 0, 131072, 65536, 0⟩ ⟨196608, 262144⟩ = true := by decide +kernel
theorem aw_3 : Mp.back ⟨131072, 0, 0, 131072, 65536, 0⟩ = (⟨32768, 0, 0, 32768, 65536, 0⟩, 0) := by decide +kernel
theorem aw_4 : Mp.back ⟨0, 0, 0, 0, 0, 0⟩ = (Mp.o, 43) := by decide +kernel
theorem aw_5 : Mp.thens Mp.one [⟨1073741825, 0, 0, 0, 0, 0⟩] = (Mp.o, 11) := by decide +kernel
theorem aw_6 : Mp.from_ ⟨32768, 0, 0, 32768, 65536, 0⟩ ⟨458752, 524288⟩ = ⟨196608, 262144⟩ := by decide +kernel
theorem aw_7 : Mp.right ⟨131072, 0, 0, 131072, 65536, 0⟩ = true ∧ Mp.right ⟨32768, 0, 0, 32768, 65536, 0⟩ = true := by decide +kernel
theorem aw_8 : Mp.turn 1 = ⟨0, 65536, -65536, 0, 0, 0⟩ := by decide +kernel
theorem awc_1 (w : World) {g : Nat} (hg : g = w.heap.size) : Calls Try.prog 14 #[.agg #[.int .i64 131072, .int .i64 0, .int .i64 0, .int .i64 131072, .int .i64 0, .int .i64 0], .slice (some ⟨g, 0, none⟩) 1 1] (w.alloc (.cells #[.int .i64 65536, .int .i64 0, .int .i64 0, .int .i64 65536, .int .i64 65536, .int .i64 0] 23)) fun e w' => e = .returned (.tuple #[.agg #[.int .i64 131072, .int .i64 0, .int .i64 0, .int .i64 131072, .int .i64 65536, .int .i64 0], .int .i64 0]) ∧ Below w.heap.size w w' := by
  have h := mp_thens ⟨131072, 0, 0, 131072, 0, 0⟩ _ [⟨65536, 0, 0, 65536, 65536, 0⟩] 1 _ (mrow_new w [⟨65536, 0, 0, 65536, 65536, 0⟩] 23 hg) (by decide)
  rw [aw_1] at h
  exact h.mono fun _ _ h => ⟨h.1, ((Below.refl _ _).alloc (Nat.le_refl _) _).trans (h.2.mono (by simp))⟩
theorem awc_5 (w : World) {g : Nat} (hg : g = w.heap.size) : Calls Try.prog 14 #[.agg #[.int .i64 65536, .int .i64 0, .int .i64 0, .int .i64 65536, .int .i64 0, .int .i64 0], .slice (some ⟨g, 0, none⟩) 1 1] (w.alloc (.cells #[.int .i64 1073741825, .int .i64 0, .int .i64 0, .int .i64 0, .int .i64 0, .int .i64 0] 23)) fun e w' => e = .returned (.tuple #[.agg #[.int .i64 0, .int .i64 0, .int .i64 0, .int .i64 0, .int .i64 0, .int .i64 0], .int .i64 11]) ∧ Below w.heap.size w w' := by
  have h := mp_thens Mp.one _ [⟨1073741825, 0, 0, 0, 0, 0⟩] 1 _ (mrow_new w [⟨1073741825, 0, 0, 0, 0, 0⟩] 23 hg) (by decide)
  rw [aw_5] at h
  exact h.mono fun _ _ h => ⟨h.1, ((Below.refl _ _).alloc (Nat.le_refl _) _).trans (h.2.mono (by simp))⟩
theorem awc_2 (w : World) : Calls Try.prog 12 #[.agg #[.int .i64 131072, .int .i64 0, .int .i64 0, .int .i64 131072, .int .i64 65536, .int .i64 0], .agg #[.int .i64 196608, .int .i64 262144]] w fun e w' => e = .returned (.tuple #[.agg #[.int .i64 458752, .int .i64 524288], .bool true]) ∧ Below w.heap.size w w' := by
  have h := mp_take ⟨131072, 0, 0, 131072, 65536, 0⟩ ⟨196608, 262144⟩ w
  rw [aw_2.1, aw_2.2] at h
  exact h
theorem awc_3 (w : World) : Calls Try.prog 16 #[.agg #[.int .i64 131072, .int .i64 0, .int .i64 0, .int .i64 131072, .int .i64 65536, .int .i64 0]] w fun e w' => e = .returned (.tuple #[.agg #[.int .i64 32768, .int .i64 0, .int .i64 0, .int .i64 32768, .int .i64 65536, .int .i64 0], .int .i64 0]) ∧ Below w.heap.size w w' := by
  have h := mp_back ⟨131072, 0, 0, 131072, 65536, 0⟩ w
  rw [aw_3] at h
  exact h
theorem awc_4 (w : World) : Calls Try.prog 16 #[.agg #[.int .i64 0, .int .i64 0, .int .i64 0, .int .i64 0, .int .i64 0, .int .i64 0]] w fun e w' => e = .returned (.tuple #[.agg #[.int .i64 0, .int .i64 0, .int .i64 0, .int .i64 0, .int .i64 0, .int .i64 0], .int .i64 43]) ∧ Below w.heap.size w w' := by
  have h := mp_back ⟨0, 0, 0, 0, 0, 0⟩ w
  rw [aw_4] at h
  exact h
theorem awc_6 (w : World) : Calls Try.prog 19 #[.agg #[.int .i64 32768, .int .i64 0, .int .i64 0, .int .i64 32768, .int .i64 65536, .int .i64 0], .agg #[.int .i64 458752, .int .i64 524288]] w fun e w' => e = .returned (.agg #[.int .i64 196608, .int .i64 262144]) ∧ Below w.heap.size w w' := by
  have h := mp_from ⟨32768, 0, 0, 32768, 65536, 0⟩ ⟨458752, 524288⟩ w ⟨aw_7.2, by decide, by decide⟩
  rw [aw_6] at h
  exact h
theorem awc_7 (w : World) : Calls Try.prog 9 #[.agg #[.int .i64 131072, .int .i64 0, .int .i64 0, .int .i64 131072, .int .i64 65536, .int .i64 0]] w fun e w' => e = .returned (.bool true) ∧ Below w.heap.size w w' := by
  have h := mp_right ⟨131072, 0, 0, 131072, 65536, 0⟩ w
  rw [aw_7.1] at h
  exact h
theorem awc_8 (w : World) : Calls Try.prog 23 #[.int .i64 1] w fun e w' => e = .returned (.agg #[.int .i64 0, .int .i64 65536, .int .i64 (-65536), .int .i64 0, .int .i64 0, .int .i64 0]) ∧ Below w.heap.size w w' := by
  have h := mp_turn 1 w
  rw [aw_8] at h
  exact h
theorem pt_same (x y : Int) (w : World) : (binOp .eql 25 (.agg #[.int .i64 x, .int .i64 y]) (.agg #[.int .i64 x, .int .i64 y])).run Try.prog w = .ok (.bool true) w := by
  have h := pt_eq ⟨x, y⟩ ⟨x, y⟩ w
  rw [decide_eq_true rfl] at h
  exact h
theorem mp_same (m : Mp) (w : World) : (binOp .eql 23 m.v m.v).run Try.prog w = .ok (.bool true) w := by
  have h := mp_eq m m w
  rw [decide_eq_true rfl] at h
  exact h
set_option maxRecDepth 100000 in
set_option maxHeartbeats 4000000 in
theorem awake_any (w : World) : Calls Try.prog 11 #[] w fun e w' => e = .returned (.bool true) ∧ Below w.heap.size w w' := by
  go_enter Try.func11, Try.ntmps11
  go_wp2_with (fail)
  refine (mp_scale 131072 131072 w).mono ?_
  rintro e w1 ⟨rfl, hb⟩
  have B1 := Lib.hid hb
  clear hb
  unfold Mp.v
  simp only
  go_wp2_with (fail)
  refine (mp_shift 65536 0 w1).mono ?_
  rintro e w2 ⟨rfl, hb⟩
  have B2 := Lib.hid (B1.out.trans (hb.mono B1.out.size))
  clear hb B1
  unfold Mp.v
  simp only
  go_wp2_with (fail)
  refine (awc_1 w2 rfl).mono ?_
  rintro e w3 ⟨rfl, hb⟩
  have B3 := Lib.hid (B2.out.trans (hb.mono B2.out.size))
  clear hb B2
  go_wp2_with (fail)
  refine (awc_2 _).mono ?_
  rintro e w4 ⟨rfl, hb⟩
  have B4 := Lib.hid ((B3.out.alloc B3.out.size _).trans (hb.mono (by have := B3.out.size; simp; omega)))
  have bm4 : Hid (Blk w4 w3.heap.size [.int .i64 131072, .int .i64 0, .int .i64 0, .int .i64 131072, .int .i64 65536, .int .i64 0]) := (blk_new w3 [.int .i64 131072, .int .i64 0, .int .i64 0, .int .i64 131072, .int .i64 65536, .int .i64 0] _).below' hb
  clear hb B3
  generalize w3.heap.size = g1 at *
  obtain ⟨⟨c0, c1, c2, c3, c4, c5⟩, -, ci⟩ := bm4.out.c6
  go_wp2_with (fail)
  refine (awc_3 _).mono ?_
  rintro e w5 ⟨rfl, hb⟩
  have B5 := Lib.hid ((B4.out.alloc B4.out.size _).trans (hb.mono (by have := B4.out.size; simp; omega)))
  have bm5 := Lib.hid ((bm4.out.alloc _).below' hb)
  have bp5 : Hid (Blk w5 w4.heap.size [.int .i64 458752, .int .i64 524288]) := (blk_new w4 [.int .i64 458752, .int .i64 524288] _).below' hb
  clear hb B4 bm4 c0 c1 c2 c3 c4 c5 ci
  generalize w4.heap.size = g2 at *
  go_wp2_with (fail)
  refine (awc_4 _).mono ?_
  rintro e w6 ⟨rfl, hb⟩
  have B6 := Lib.hid ((B5.out.alloc B5.out.size _).trans (hb.mono (by have := B5.out.size; simp; omega)))
  have bm6 := Lib.hid ((bm5.out.alloc _).below' hb)
  have bp6 := Lib.hid ((bp5.out.alloc _).below' hb)
  have bk6 : Hid (Blk w6 w5.heap.size [.int .i64 32768, .int .i64 0, .int .i64 0, .int .i64 32768, .int .i64 65536, .int .i64 0]) := (blk_new w5 [.int .i64 32768, .int .i64 0, .int .i64 0, .int .i64 32768, .int .i64 65536, .int .i64 0] _).below' hb
  clear hb B5 bm5 bp5
  generalize w5.heap.size = g3 at *
  go_wp2_with (fail)
  refine (mp_one _).mono ?_
  rintro e w7 ⟨rfl, hb⟩
  have B7 := Lib.hid ((B6.out.alloc B6.out.size _).trans (hb.mono (by have := B6.out.size; simp; omega)))
  have bm7 := Lib.hid ((bm6.out.alloc _).below' hb)
  have bp7 := Lib.hid ((bp6.out.alloc _).below' hb)
  have bk7 := Lib.hid ((bk6.out.alloc _).below' hb)
  clear hb B6 bm6 bp6 bk6
  generalize w6.heap.size = g4 at *
  unfold Mp.one Mp.v
  simp only
  go_wp2_with (fail)
  refine (awc_5 w7 rfl).mono ?_
  rintro e w8 ⟨rfl, hb⟩
  have B8 := Lib.hid (B7.out.trans (hb.mono B7.out.size))
  have bm8 := Lib.hid (bm7.out.below' hb)
  have bp8 := Lib.hid (bp7.out.below' hb)
  have bk8 := Lib.hid (bk7.out.below' hb)
  clear hb B7 bm7 bp7 bk7
  obtain ⟨⟨c0, c1, c2, c3, c4, c5⟩, -, ci⟩ := bk8.out.c6
  obtain ⟨⟨p0, p1⟩, -, pi⟩ := bp8.out.c2
  have e1 := pt_same 458752 524288
  have e2 := pt_same 196608 262144
  have e3 := mp_same ⟨0, 65536, -65536, 0, 0, 0⟩
  unfold Mp.v at e3
  simp only at e3
  go_wp2_with (fail)
  refine (awc_6 _).mono ?_
  rintro e w9 ⟨rfl, hb⟩
  have B9 := Lib.hid ((B8.out.alloc B8.out.size _).trans (hb.mono (by have := B8.out.size; simp; omega)))
  have bm9 := Lib.hid ((bm8.out.alloc _).below' hb)
  clear hb B8 bm8 bp8 bk8 c0 c1 c2 c3 c4 c5 ci p0 p1 pi
  obtain ⟨⟨c0, c1, c2, c3, c4, c5⟩, -, ci⟩ := bm9.out.c6
  go_wp2_with (fail)
  refine (awc_7 _).mono ?_
  rintro e w10 ⟨rfl, hb⟩
  have B10 := Lib.hid (B9.out.trans (hb.mono B9.out.size))
  clear hb B9 bm9 c0 c1 c2 c3 c4 c5 ci
  go_wp2_with (fail)
  refine (awc_8 _).mono ?_
  rintro e w11 ⟨rfl, hb⟩
  have B11 := Lib.hid (B10.out.trans (hb.mono B10.out.size))
  clear hb B10
  go_wp2_with (fail)
  go_ret
  exact ⟨rfl, B11.out⟩
end Go.Proofs.Ytmbfkaodoankaaa
