/-
  Layer 11: the fixed answer.
-/
import Derived.Test.YtfmlecjobpdbbaaNdG
import Derived.Test.YtfmlecjobpdbbaaNdH
import Derived.Test.YtfmlecjobpdbbaaNdI
import Derived.Test.YtfmlecjobpdbbaaStowB
import Derived.Deep.Grids
import Derived.Deep.DeepCutAuto
import Derived.Deep.CutBlock
namespace Go.Proofs.Ytfmlecjobpdbbaa
open Go.RowKit pxm imm

def JR (olds : List (Nat × List Value)) (A9 : Option Addr) (wx : World) : Prop := JBs olds wx ∧ Row eW wx A9 [7]
theorem JR.below {olds : List (Nat × List Value)} {A9 : Option Addr} {w w9 : World} (h : JR olds A9 w) (hb : Below w.heap.size w w9) : JR olds A9 w9 := ⟨h.1.below hb, h.2.below hb⟩
def sayCp : regs.Say regs.bl := ⟨fun v w => ∃ A8 c8, v = .agg #[.int .i64 65536, .int .i64 0, .int .i64 0, .int .i64 65536, .int .i64 0, .int .i64 0, .int .i64 255, .bool false, .bool false, .int .i64 0, .int .i64 0, .int .i64 0, .int .i64 0, .int .i64 2, .int .i64 0, .int .i64 0, .int .u32 0, .int .i64 1, .int .i64 1, .slice A8 1 c8] ∧ Row eW w A8 [7], fun _ _ _ ⟨A8, c8, h, hr⟩ hb => ⟨A8, c8, h, hr.below hb⟩⟩
theorem Blk.c20 {w : World} {g : Nat} {a0 a1 a2 a3 a4 a5 a6 a7 a8 a9 a10 a11 a12 a13 a14 a15 a16 a17 a18 a19 : Value} (h : Blk w g [a0, a1, a2, a3, a4, a5, a6, a7, a8, a9, a10, a11, a12, a13, a14, a15, a16, a17, a18, a19]) : (w.cell? ⟨g, 0, none⟩ = some a0 ∧ w.cell? ⟨g, 1, none⟩ = some a1 ∧ w.cell? ⟨g, 2, none⟩ = some a2 ∧ w.cell? ⟨g, 3, none⟩ = some a3 ∧ w.cell? ⟨g, 4, none⟩ = some a4 ∧ w.cell? ⟨g, 5, none⟩ = some a5 ∧ w.cell? ⟨g, 6, none⟩ = some a6 ∧ w.cell? ⟨g, 7, none⟩ = some a7 ∧ w.cell? ⟨g, 8, none⟩ = some a8 ∧ w.cell? ⟨g, 9, none⟩ = some a9 ∧ w.cell? ⟨g, 10, none⟩ = some a10 ∧ w.cell? ⟨g, 11, none⟩ = some a11 ∧ w.cell? ⟨g, 12, none⟩ = some a12 ∧ w.cell? ⟨g, 13, none⟩ = some a13 ∧ w.cell? ⟨g, 14, none⟩ = some a14 ∧ w.cell? ⟨g, 15, none⟩ = some a15 ∧ w.cell? ⟨g, 16, none⟩ = some a16 ∧ w.cell? ⟨g, 17, none⟩ = some a17 ∧ w.cell? ⟨g, 18, none⟩ = some a18 ∧ w.cell? ⟨g, 19, none⟩ = some a19) ∧ (w.frozen? ⟨g, 0, none⟩ = false ∧ w.frozen? ⟨g, 1, none⟩ = false ∧ w.frozen? ⟨g, 2, none⟩ = false ∧ w.frozen? ⟨g, 3, none⟩ = false ∧ w.frozen? ⟨g, 4, none⟩ = false ∧ w.frozen? ⟨g, 5, none⟩ = false ∧ w.frozen? ⟨g, 6, none⟩ = false ∧ w.frozen? ⟨g, 7, none⟩ = false ∧ w.frozen? ⟨g, 8, none⟩ = false ∧ w.frozen? ⟨g, 9, none⟩ = false ∧ w.frozen? ⟨g, 10, none⟩ = false ∧ w.frozen? ⟨g, 11, none⟩ = false ∧ w.frozen? ⟨g, 12, none⟩ = false ∧ w.frozen? ⟨g, 13, none⟩ = false ∧ w.frozen? ⟨g, 14, none⟩ = false ∧ w.frozen? ⟨g, 15, none⟩ = false ∧ w.frozen? ⟨g, 16, none⟩ = false ∧ w.frozen? ⟨g, 17, none⟩ = false ∧ w.frozen? ⟨g, 18, none⟩ = false ∧ w.frozen? ⟨g, 19, none⟩ = false) ∧ g < w.heap.size :=
  ⟨⟨h.cell 0, h.cell 1, h.cell 2, h.cell 3, h.cell 4, h.cell 5, h.cell 6, h.cell 7, h.cell 8, h.cell 9, h.cell 10, h.cell 11, h.cell 12, h.cell 13, h.cell 14, h.cell 15, h.cell 16, h.cell 17, h.cell 18, h.cell 19⟩, ⟨h.free 0, h.free 1, h.free 2, h.free 3, h.free 4, h.free 5, h.free 6, h.free 7, h.free 8, h.free 9, h.free 10, h.free 11, h.free 12, h.free 13, h.free 14, h.free 15, h.free 16, h.free 17, h.free 18, h.free 19⟩, h.inside⟩
theorem aw_P0 : ∀ w, Calls Try.prog 16 #[] w fun e w' => e = .returned (.agg #[.int .i64 65536, .int .i64 0, .int .i64 0, .int .i64 65536, .int .i64 0, .int .i64 0, .int .i64 255, .bool false, .bool false, .int .i64 0, .int .i64 0, .int .i64 0, .int .i64 0, .int .i64 0, .int .i64 0, .int .i64 0, .int .u32 0, .int .i64 0, .int .i64 0, .slice none 0 0]) ∧ Below w.heap.size w w' := fun w => plain_any w
theorem aw_P1 : ∀ w, Calls Try.prog 17 #[.int .i64 2, .int .i64 1, .int .u32 255] w fun e w' => e = .returned (.agg #[.int .i64 1, .int .i64 2, .int .i64 1, .int .u32 255, .int .i64 0, .int .i64 0, .slice none 0 0]) ∧ Below w.heap.size w w' := fun w => fillof_any 2 1 255 w
theorem aw_P2 : ∀ w, Calls Try.prog 12 #[.agg #[.int .i64 1, .int .i64 2, .int .i64 1, .int .u32 255, .int .i64 0, .int .i64 0, .slice none 0 0]] w fun e w' => e = .returned (.tuple #[.int .i64 2, .int .i64 1]) ∧ Below w.heap.size w w' := fun w => size_any 1 2 1 255 0 0 none 0 0 w
theorem aw_P3 : ∀ w, Calls Try.prog 7 #[.agg #[.int .i64 65536, .int .i64 0, .int .i64 0, .int .i64 65536, .int .i64 0, .int .i64 0, .int .i64 255, .bool false, .bool false, .int .i64 0, .int .i64 0, .int .i64 0, .int .i64 0, .int .i64 0, .int .i64 0, .int .i64 0, .int .u32 0, .int .i64 0, .int .i64 0, .slice none 0 0]] w fun e w' => e = .returned (.int .i64 0) ∧ Below w.heap.size w w' := fun w => by
    have h := ndcheck_any Mp.one 255 false false Bx.o 0 0 0 0 0 0 none [] 0 (by decide) (by simp) (by simp) w (Row.none_ rfl)
    rw [show ndC Mp.one 255 false Bx.o (lkC 0 0 0 0 0 0 []) = 0 by decide] at h
    exact h
theorem aw_P4 : ∀ w, Calls Try.prog 21 #[] w fun e w' => e = .returned (.agg #[.int .i64 65536, .int .i64 0, .int .i64 0, .int .i64 65536, .int .i64 0, .int .i64 0]) ∧ Below w.heap.size w w' := fun w => mp_one w
theorem aw_P5 : ∀ w, Calls Try.prog 10 #[.agg #[.int .i64 1, .int .i64 2, .int .i64 1, .int .u32 255, .int .i64 0, .int .i64 0, .slice none 0 0]] w fun e w' => e = .returned (.int .i64 0) ∧ Below w.heap.size w w' := fun w => by
    have h := lkcheck_any 1 2 1 255 0 0 none [] 0 (by decide) (by simp) (by simp) w (Row.none_ rfl)
    rw [show lkC 1 2 1 255 0 0 [] = 0 by decide] at h
    exact h
theorem aw_P6 : ∀ w, Calls Try.prog 14 #[.agg #[.int .i64 1, .int .i64 2, .int .i64 1, .int .u32 255, .int .i64 0, .int .i64 0, .slice none 0 0], .int .i64 1, .int .i64 0] w fun e w' => e = .returned (.int .u32 255) ∧ Below w.heap.size w w' := fun w => by
    have h := lkat_any 1 2 1 255 0 0 none [] 0 1 0 (by decide) (by simp) w (Row.none_ rfl)
    rw [show lkAt 1 2 1 255 0 0 [] 1 0 = 255 by decide] at h
    exact h
theorem aw_P7 : ∀ w, Calls Try.prog 14 #[.agg #[.int .i64 1, .int .i64 2, .int .i64 1, .int .u32 255, .int .i64 0, .int .i64 0, .slice none 0 0], .int .i64 2, .int .i64 0] w fun e w' => e = .returned (.int .u32 0) ∧ Below w.heap.size w w' := fun w => by
    have h := lkat_any 1 2 1 255 0 0 none [] 0 2 0 (by decide) (by simp) w (Row.none_ rfl)
    rw [show lkAt 1 2 1 255 0 0 [] 2 0 = 0 by decide] at h
    exact h
theorem aw_P8 : ∀ A9 c9 w, Row eW w A9 [7] → Calls Try.prog 7 #[.agg #[.int .i64 65536, .int .i64 0, .int .i64 0, .int .i64 65536, .int .i64 0, .int .i64 0, .int .i64 255, .bool false, .bool false, .int .i64 0, .int .i64 0, .int .i64 0, .int .i64 0, .int .i64 2, .int .i64 0, .int .i64 0, .int .u32 0, .int .i64 1, .int .i64 1, .slice A9 1 c9]] w fun e w' => e = .returned (.int .i64 0) ∧ Below w.heap.size w w' := fun A9 c9 w hr => by
    have h := ndcheck_any Mp.one 255 false false Bx.o 2 0 0 0 1 1 A9 [7] c9 (by decide) (by simp) (by simp [maxLen]) w hr
    rw [show ndC Mp.one 255 false Bx.o (lkC 2 0 0 0 1 1 [7]) = 0 by decide] at h
    exact h
theorem aw_P9 : ∀ A9 c9 w, Row eW w A9 [7] → Calls Try.prog 14 #[.agg #[.int .i64 2, .int .i64 0, .int .i64 0, .int .u32 0, .int .i64 1, .int .i64 1, .slice A9 1 c9], .int .i64 0, .int .i64 0] w fun e w' => e = .returned (.int .u32 7) ∧ Below w.heap.size w w' := fun A9 c9 w hr => by
    have h := lkat_any 2 0 0 0 1 1 A9 [7] c9 0 0 (by decide) (by simp [maxLen]) w hr
    rw [show lkAt 2 0 0 0 1 1 [7] 0 0 = 7 by decide] at h
    exact h
theorem aw_P10 : ∀ w, Calls Try.prog 7 #[.agg #[.int .i64 65536, .int .i64 0, .int .i64 0, .int .i64 65536, .int .i64 0, .int .i64 0, .int .i64 256, .bool false, .bool false, .int .i64 0, .int .i64 0, .int .i64 0, .int .i64 0, .int .i64 0, .int .i64 0, .int .i64 0, .int .u32 0, .int .i64 0, .int .i64 0, .slice none 0 0]] w fun e w' => e = .returned (.int .i64 11) ∧ Below w.heap.size w w' := fun w => by
    have h := ndcheck_any Mp.one 256 false false Bx.o 0 0 0 0 0 0 none [] 0 (by decide) (by simp) (by simp) w (Row.none_ rfl)
    rw [show ndC Mp.one 256 false Bx.o (lkC 0 0 0 0 0 0 []) = 11 by decide] at h
    exact h
theorem aw_P11 : ∀ A9 c9 w, Row eW w A9 [7] → Calls Try.prog 22 #[.agg #[.int .i64 65536, .int .i64 0, .int .i64 0, .int .i64 65536, .int .i64 0, .int .i64 0, .int .i64 255, .bool false, .bool false, .int .i64 0, .int .i64 0, .int .i64 0, .int .i64 0, .int .i64 2, .int .i64 0, .int .i64 0, .int .u32 0, .int .i64 1, .int .i64 1, .slice A9 1 c9]] w fun e w' => ∃ A8 c8, e = .returned (.agg #[.int .i64 65536, .int .i64 0, .int .i64 0, .int .i64 65536, .int .i64 0, .int .i64 0, .int .i64 255, .bool false, .bool false, .int .i64 0, .int .i64 0, .int .i64 0, .int .i64 0, .int .i64 2, .int .i64 0, .int .i64 0, .int .u32 0, .int .i64 1, .int .i64 1, .slice A8 1 c8]) ∧ Pxs w' w.heap.size A8 [7] c8 ∧ Below w.heap.size w w' := fun A9 c9 w hr => ndcopy_any Mp.one 255 false false Bx.o 2 0 0 0 1 1 A9 [7] c9 w hr (by simp)
theorem aw_P12 : ∀ A9 c9 A8 c8 w, Row eW w A9 [7] → Row eW w A8 [7] → Calls Try.prog 19 #[.agg #[.int .i64 65536, .int .i64 0, .int .i64 0, .int .i64 65536, .int .i64 0, .int .i64 0, .int .i64 255, .bool false, .bool false, .int .i64 0, .int .i64 0, .int .i64 0, .int .i64 0, .int .i64 2, .int .i64 0, .int .i64 0, .int .u32 0, .int .i64 1, .int .i64 1, .slice A9 1 c9], .agg #[.int .i64 65536, .int .i64 0, .int .i64 0, .int .i64 65536, .int .i64 0, .int .i64 0, .int .i64 255, .bool false, .bool false, .int .i64 0, .int .i64 0, .int .i64 0, .int .i64 0, .int .i64 2, .int .i64 0, .int .i64 0, .int .u32 0, .int .i64 1, .int .i64 1, .slice A8 1 c8]] w fun e w' => e = .returned (.bool true) ∧ Below w.heap.size w w' := fun A9 c9 A8 c8 w hr hr2 => by
    have h := ndequal_any Mp.one 255 false false Bx.o 2 0 0 0 1 1 A9 [7] c9 Mp.one 255 false false Bx.o 2 0 0 0 1 1 A8 [7] c8 (by simp [maxLen]) (by simp [maxLen]) w hr hr2
    rw [show eqNd Mp.one 255 false false Bx.o Mp.one 255 false false Bx.o (eqLk 2 0 0 0 1 1 [7] 2 0 0 0 1 1 [7]) = true by decide] at h
    exact h
theorem aw_P13 : ∀ A9 c9 w, Row eW w A9 [7] → Calls Try.prog 19 #[.agg #[.int .i64 65536, .int .i64 0, .int .i64 0, .int .i64 65536, .int .i64 0, .int .i64 0, .int .i64 255, .bool false, .bool false, .int .i64 0, .int .i64 0, .int .i64 0, .int .i64 0, .int .i64 2, .int .i64 0, .int .i64 0, .int .u32 0, .int .i64 1, .int .i64 1, .slice A9 1 c9], .agg #[.int .i64 65536, .int .i64 0, .int .i64 0, .int .i64 65536, .int .i64 0, .int .i64 0, .int .i64 255, .bool false, .bool false, .int .i64 0, .int .i64 0, .int .i64 0, .int .i64 0, .int .i64 0, .int .i64 0, .int .i64 0, .int .u32 0, .int .i64 0, .int .i64 0, .slice none 0 0]] w fun e w' => e = .returned (.bool false) ∧ Below w.heap.size w w' := fun A9 c9 w hr => by
    have h := ndequal_any Mp.one 255 false false Bx.o 2 0 0 0 1 1 A9 [7] c9 Mp.one 255 false false Bx.o 0 0 0 0 0 0 none [] 0 (by simp [maxLen]) (by simp) w hr (Row.none_ rfl)
    rw [show eqNd Mp.one 255 false false Bx.o Mp.one 255 false false Bx.o (eqLk 2 0 0 0 1 1 [7] 0 0 0 0 0 0 []) = false by decide] at h
    exact h
theorem aw_P14 : ∀ w, Calls Try.prog 10 #[.agg #[.int .i64 0, .int .i64 1, .int .i64 0, .int .u32 0, .int .i64 0, .int .i64 0, .slice none 0 0]] w fun e w' => e = .returned (.int .i64 10) ∧ Below w.heap.size w w' := fun w => by
    have h := lkcheck_any 0 1 0 0 0 0 none [] 0 (by decide) (by simp) (by simp) w (Row.none_ rfl)
    rw [show lkC 0 1 0 0 0 0 [] = 10 by decide] at h
    exact h
theorem aw_P15 : ∀ w g, g = w.heap.size → Calls Try.prog 18 #[.agg #[.int .i64 1, .int .i64 1, .slice (some ⟨g, 0, none⟩) 1 1]] (w.alloc (.cells #[.int .u32 7] 27)) fun e w' => ∃ A9 c9, e = .returned (.agg #[.int .i64 2, .int .i64 0, .int .i64 0, .int .u32 0, .int .i64 1, .int .i64 1, .slice A9 1 c9]) ∧ Row eW w' A9 [7] ∧ (∀ b o, A9 = some ⟨b, o, none⟩ → w.heap.size ≤ b ∧ b < w'.heap.size) ∧ Below w.heap.size w w' := fun w g hg => by
    have h := imageof_any 1 1 (some ⟨g, 0, none⟩) [7] 1 (w.alloc (.cells #[.int .u32 7] 27)) (row_new' w [7] _ hg) (by simp)
    refine h.mono ?_
    rintro e w' ⟨A9, c9, rfl, hx, hb⟩
    refine ⟨A9, c9, rfl, hx.1, fun b o e => ⟨?_, ?_⟩, bel1 hb⟩
    · have h1 := hx.2.1 b o e
      simp at h1
      omega
    · obtain ⟨b2, o2, e2, h2⟩ := hx.1 (by simp)
      have h3 := World.block_lt_of_cell? w' ⟨b2, _, none⟩ (h2 0 (by simp))
      rw [e] at e2
      injection e2 with e2
      injection e2 with e3 _ _
      rw [e3]
      exact h3
set_option maxHeartbeats 4000000 in
set_option maxRecDepth 100000 in
theorem awake_any (w : World) : Calls Try.prog 6 #[] w fun e w' => e = .returned (.bool true) ∧ Below w.heap.size w w' := by
  have P0 := Lib.hid aw_P0
  have P1 := Lib.hid aw_P1
  have P2 := Lib.hid aw_P2
  have P3 := Lib.hid aw_P3
  have P4 := Lib.hid aw_P4
  have q4 : ∀ w, (binOp .eql 23 (.agg #[.int .i64 65536, .int .i64 0, .int .i64 0, .int .i64 65536, .int .i64 0, .int .i64 0]) (.agg #[.int .i64 65536, .int .i64 0, .int .i64 0, .int .i64 65536, .int .i64 0, .int .i64 0])).run Try.prog w = .ok (.bool true) w := fun w => mp_eq Mp.one Mp.one w
  have P5 := Lib.hid aw_P5
  have P6 := Lib.hid aw_P6
  have P7 := Lib.hid aw_P7
  have P8 := Lib.hid aw_P8
  have P9 := Lib.hid aw_P9
  have P10 := Lib.hid aw_P10
  have P11 := Lib.hid aw_P11
  have P12 := Lib.hid aw_P12
  have P13 := Lib.hid aw_P13
  have P14 := Lib.hid aw_P14
  have P15 := Lib.hid aw_P15
  go_enter Try.func6, Try.ntmps6
  go_wp2_with (fail)
  refine (P0.out _).mono ?_
  rintro e w1 ⟨rfl, hb⟩
  have HB1 := Lib.hid hb
  clear hb P0
  go_wp2_with (first | (with_reducible show wpList _ _ _ (Oper.mk _ (Op.store _ _ _) _ _ _ _ :: _) _ _; first | (refine wpl_stow 34 _ _ rfl rfl rfl _ 0 rfl [.int .i64 65536, .int .i64 0, .int .i64 0, .int .i64 65536, .int .i64 0, .int .i64 0, .int .i64 255, .bool false, .bool false, .int .i64 0, .int .i64 0, .int .i64 0, .int .i64 0, .int .i64 0, .int .i64 0, .int .i64 0, .int .u32 0, .int .i64 0, .int .i64 0, .slice none 0 0] rfl _ (blk_new w1 [.int .i64 0, .int .i64 0, .int .i64 0, .int .i64 0, .int .i64 0, .int .i64 0, .int .i64 0, .bool false, .bool false, .int .i64 0, .int .i64 0, .int .i64 0, .int .i64 0, .int .i64 0, .int .i64 0, .int .i64 0, .int .u32 0, .int .i64 0, .int .i64 0, .slice none 0 0] 34) [.int .i64 65536, .int .i64 0, .int .i64 0, .int .i64 65536, .int .i64 0, .int .i64 0, .int .i64 255, .bool false, .bool false, .int .i64 0, .int .i64 0, .int .i64 0, .int .i64 0, .int .i64 0, .int .i64 0, .int .i64 0, .int .u32 0, .int .i64 0, .int .i64 0, .slice none 0 0] rfl (by simp) (by kernel_rfl) rfl ?_; intro w2 HW2 HK2)))
  have HJ2 : Hid (JBs [(w1.heap.size, [.int .i64 65536, .int .i64 0, .int .i64 0, .int .i64 65536, .int .i64 0, .int .i64 0, .int .i64 255, .bool false, .bool false, .int .i64 0, .int .i64 0, .int .i64 0, .int .i64 0, .int .i64 0, .int .i64 0, .int .i64 0, .int .u32 0, .int .i64 0, .int .i64 0, .slice none 0 0])] w2) := JBs.made (l := []) trivial HW2.out HK2.out
  have HB2 := Lib.hid (HW2.out.made HB1.out)
  clear HW2 HK2 HB1
  generalize w1.heap.size = g1 at *
  refine (P1.out _).mono ?_
  rintro e w3 ⟨rfl, hb⟩
  have HJ3 := Lib.hid (HJ2.out.below hb)
  have HB3 := Lib.hid (bel2 HB2.out hb)
  clear hb P1 HJ2 HB2
  go_wp2_with (first | (with_reducible show wpList _ _ _ (Oper.mk _ (Op.load _ _) _ _ _ _ :: _) _ _; first | (refine wpl_take 32 _ rfl rfl _ 0 rfl _ HK4.out [.int .i64 1, .int .i64 2, .int .i64 1, .int .u32 255, .int .i64 0, .int .i64 0, .slice none 0 0] rfl _ Try.underlying32 rfl (by kernel_rfl) ?_)) | (with_reducible show wpList _ _ _ (Oper.mk _ (Op.store _ _ _) _ _ _ _ :: _) _ _; first | (refine wpl_stow 32 _ _ rfl rfl rfl _ 0 rfl [.int .i64 1, .int .i64 2, .int .i64 1, .int .u32 255, .int .i64 0, .int .i64 0, .slice none 0 0] rfl _ (blk_new w3 [.int .i64 0, .int .i64 0, .int .i64 0, .int .u32 0, .int .i64 0, .int .i64 0, .slice none 0 0] 32) [.int .i64 1, .int .i64 2, .int .i64 1, .int .u32 255, .int .i64 0, .int .i64 0, .slice none 0 0] rfl (by simp) (by kernel_rfl) rfl ?_; intro w4 HW4 HK4)))
  have HJ4 : Hid (JBs [(w3.heap.size, [.int .i64 1, .int .i64 2, .int .i64 1, .int .u32 255, .int .i64 0, .int .i64 0, .slice none 0 0]), (g1, [.int .i64 65536, .int .i64 0, .int .i64 0, .int .i64 65536, .int .i64 0, .int .i64 0, .int .i64 255, .bool false, .bool false, .int .i64 0, .int .i64 0, .int .i64 0, .int .i64 0, .int .i64 0, .int .i64 0, .int .i64 0, .int .u32 0, .int .i64 0, .int .i64 0, .slice none 0 0])] w4) := HJ3.out.made HW4.out HK4.out
  have HB4 := Lib.hid (HW4.out.made HB3.out)
  have HG12 : Hid (g1 < w3.heap.size) := HJ3.out.1.inside
  clear HW4 HK4 HB3 HJ3
  generalize w3.heap.size = g2 at *
  refine (P2.out _).mono ?_
  rintro e w5 ⟨rfl, hb⟩
  have HJ5 := Lib.hid (HJ4.out.below hb)
  have HB5 := Lib.hid (bel2 HB4.out hb)
  clear hb P2 HJ4 HB4
  have K1 : Hid (Blk w5 g1 [.int .i64 65536, .int .i64 0, .int .i64 0, .int .i64 65536, .int .i64 0, .int .i64 0, .int .i64 255, .bool false, .bool false, .int .i64 0, .int .i64 0, .int .i64 0, .int .i64 0, .int .i64 0, .int .i64 0, .int .i64 0, .int .u32 0, .int .i64 0, .int .i64 0, .slice none 0 0]) := HJ5.out.2.1
  go_wp2_with (first | (with_reducible show wpList _ _ _ (Oper.mk _ (Op.load _ _) _ _ _ _ :: _) _ _; first | (refine wpl_take 34 _ rfl rfl _ 0 rfl _ K1.out [.int .i64 65536, .int .i64 0, .int .i64 0, .int .i64 65536, .int .i64 0, .int .i64 0, .int .i64 255, .bool false, .bool false, .int .i64 0, .int .i64 0, .int .i64 0, .int .i64 0, .int .i64 0, .int .i64 0, .int .i64 0, .int .u32 0, .int .i64 0, .int .i64 0, .slice none 0 0] rfl _ Try.underlying34 rfl (by kernel_rfl) ?_)) | (with_reducible show wpList _ _ _ (Oper.mk _ (Op.store _ _ _) _ _ _ _ :: _) _ _; first | (refine wpl_stow 34 _ _ rfl rfl rfl _ 0 rfl [.int .i64 65536, .int .i64 0, .int .i64 0, .int .i64 65536, .int .i64 0, .int .i64 0, .int .i64 255, .bool false, .bool false, .int .i64 0, .int .i64 0, .int .i64 0, .int .i64 0, .int .i64 0, .int .i64 0, .int .i64 0, .int .u32 0, .int .i64 0, .int .i64 0, .slice none 0 0] rfl _ (blk_new w5 [.int .i64 0, .int .i64 0, .int .i64 0, .int .i64 0, .int .i64 0, .int .i64 0, .int .i64 0, .bool false, .bool false, .int .i64 0, .int .i64 0, .int .i64 0, .int .i64 0, .int .i64 0, .int .i64 0, .int .i64 0, .int .u32 0, .int .i64 0, .int .i64 0, .slice none 0 0] 34) [.int .i64 65536, .int .i64 0, .int .i64 0, .int .i64 65536, .int .i64 0, .int .i64 0, .int .i64 255, .bool false, .bool false, .int .i64 0, .int .i64 0, .int .i64 0, .int .i64 0, .int .i64 0, .int .i64 0, .int .i64 0, .int .u32 0, .int .i64 0, .int .i64 0, .slice none 0 0] rfl (by simp) (by kernel_rfl) rfl ?_; intro w6 HW6 HK6)))
  have HJ6 : Hid (JBs [(w5.heap.size, [.int .i64 65536, .int .i64 0, .int .i64 0, .int .i64 65536, .int .i64 0, .int .i64 0, .int .i64 255, .bool false, .bool false, .int .i64 0, .int .i64 0, .int .i64 0, .int .i64 0, .int .i64 0, .int .i64 0, .int .i64 0, .int .u32 0, .int .i64 0, .int .i64 0, .slice none 0 0]), (g2, [.int .i64 1, .int .i64 2, .int .i64 1, .int .u32 255, .int .i64 0, .int .i64 0, .slice none 0 0]), (g1, [.int .i64 65536, .int .i64 0, .int .i64 0, .int .i64 65536, .int .i64 0, .int .i64 0, .int .i64 255, .bool false, .bool false, .int .i64 0, .int .i64 0, .int .i64 0, .int .i64 0, .int .i64 0, .int .i64 0, .int .i64 0, .int .u32 0, .int .i64 0, .int .i64 0, .slice none 0 0])] w6) := HJ5.out.made HW6.out HK6.out
  have HB6 := Lib.hid (HW6.out.made HB5.out)
  have HG25 : Hid (g2 < w5.heap.size) := HJ5.out.1.inside
  have HL5 : Hid (w.heap.size ≤ w5.heap.size) := HB5.out.size
  clear HW6 HK6 HB5 HJ5 K1
  generalize w5.heap.size = g5 at *
  refine (P15.out _ _ rfl).mono ?_
  rintro e w7 ⟨A9, c9, rfl, hr, ha, hb⟩
  have HA7 : Hid (∀ b o, A9 = some ⟨b, o, none⟩ → b ≠ g5 ∧ b < w7.heap.size) := fun b o e => ⟨by have := ha b o e; have := HJ6.out.1.inside; omega, (ha b o e).2⟩
  have HJ7 := Lib.hid (HJ6.out.below hb)
  have HB7 := Lib.hid (bel2 HB6.out hb)
  have HR7 := Lib.hid hr
  clear hb hr ha P15 HJ6 HB6
  have h25 : g2 ≠ g5 := by have := HG25.out; omega
  have h15 : g1 ≠ g5 := by have := HG25.out; have := HG12.out; omega
  have K5 : Hid (Blk w7 g5 [.int .i64 65536, .int .i64 0, .int .i64 0, .int .i64 65536, .int .i64 0, .int .i64 0, .int .i64 255, .bool false, .bool false, .int .i64 0, .int .i64 0, .int .i64 0, .int .i64 0, .int .i64 0, .int .i64 0, .int .i64 0, .int .u32 0, .int .i64 0, .int .i64 0, .slice none 0 0]) := HJ7.out.1
  go_upto_region 6 with (first | (with_reducible show wpList _ _ _ (Oper.mk _ (Op.store _ _ _) _ _ _ _ :: _) _ _; first | (refine wpl_stow 32 _ _ rfl rfl rfl _ 13 rfl [.int .i64 2, .int .i64 0, .int .i64 0, .int .u32 0, .int .i64 1, .int .i64 1, .slice A9 1 c9] rfl _ K5.out [.int .i64 65536, .int .i64 0, .int .i64 0, .int .i64 65536, .int .i64 0, .int .i64 0, .int .i64 255, .bool false, .bool false, .int .i64 0, .int .i64 0, .int .i64 0, .int .i64 0, .int .i64 2, .int .i64 0, .int .i64 0, .int .u32 0, .int .i64 1, .int .i64 1, .slice A9 1 c9] rfl (by simp) (by kernel_rfl) rfl ?_; intro w8 HW8 HK8)))
  have HJ8 : Hid (JBs [(g5, [.int .i64 65536, .int .i64 0, .int .i64 0, .int .i64 65536, .int .i64 0, .int .i64 0, .int .i64 255, .bool false, .bool false, .int .i64 0, .int .i64 0, .int .i64 0, .int .i64 0, .int .i64 2, .int .i64 0, .int .i64 0, .int .u32 0, .int .i64 1, .int .i64 1, .slice A9 1 c9]), (g2, [.int .i64 1, .int .i64 2, .int .i64 1, .int .u32 255, .int .i64 0, .int .i64 0, .slice none 0 0]), (g1, [.int .i64 65536, .int .i64 0, .int .i64 0, .int .i64 65536, .int .i64 0, .int .i64 0, .int .i64 255, .bool false, .bool false, .int .i64 0, .int .i64 0, .int .i64 0, .int .i64 0, .int .i64 0, .int .i64 0, .int .i64 0, .int .u32 0, .int .i64 0, .int .i64 0, .slice none 0 0])] w8) := ⟨HK8.out, HW8.out.blk h25 HJ7.out.2.1, HW8.out.blk h15 HJ7.out.2.2.1, trivial⟩
  have HB8 := Lib.hid (HW8.out.below HB7.out HL5.out)
  have HR8 : Hid (Row eW w8 A9 [7]) := HR7.out.by_block fun b o e => HW8.out.far (HA7.out b o e).1
  have HA8 : Hid (∀ b o, A9 = some ⟨b, o, none⟩ → b ≠ w8.heap.size) := fun b o e => by have := (HA7.out b o e).2; rw [HW8.out.size]; omega
  clear HJ7 HB7 HW8 HK8 HR7 K5 HA7
  have K1 : Hid (Blk w8 g1 [.int .i64 65536, .int .i64 0, .int .i64 0, .int .i64 65536, .int .i64 0, .int .i64 0, .int .i64 255, .bool false, .bool false, .int .i64 0, .int .i64 0, .int .i64 0, .int .i64 0, .int .i64 0, .int .i64 0, .int .i64 0, .int .u32 0, .int .i64 0, .int .i64 0, .slice none 0 0]) := HJ8.out.2.2.1
  go_upto_region 7 with (first | (with_reducible show wpList _ _ _ (Oper.mk _ (Op.load _ _) _ _ _ _ :: _) _ _; first | (refine wpl_take 34 _ rfl rfl _ 0 rfl _ K1.out [.int .i64 65536, .int .i64 0, .int .i64 0, .int .i64 65536, .int .i64 0, .int .i64 0, .int .i64 255, .bool false, .bool false, .int .i64 0, .int .i64 0, .int .i64 0, .int .i64 0, .int .i64 0, .int .i64 0, .int .i64 0, .int .u32 0, .int .i64 0, .int .i64 0, .slice none 0 0] rfl _ Try.underlying34 rfl (by kernel_rfl) ?_)) | (with_reducible show wpList _ _ _ (Oper.mk _ (Op.store _ _ _) _ _ _ _ :: _) _ _; first | (refine wpl_stow 34 _ _ rfl rfl rfl _ 0 rfl [.int .i64 65536, .int .i64 0, .int .i64 0, .int .i64 65536, .int .i64 0, .int .i64 0, .int .i64 255, .bool false, .bool false, .int .i64 0, .int .i64 0, .int .i64 0, .int .i64 0, .int .i64 0, .int .i64 0, .int .i64 0, .int .u32 0, .int .i64 0, .int .i64 0, .slice none 0 0] rfl _ (blk_new w8 [.int .i64 0, .int .i64 0, .int .i64 0, .int .i64 0, .int .i64 0, .int .i64 0, .int .i64 0, .bool false, .bool false, .int .i64 0, .int .i64 0, .int .i64 0, .int .i64 0, .int .i64 0, .int .i64 0, .int .i64 0, .int .u32 0, .int .i64 0, .int .i64 0, .slice none 0 0] 34) [.int .i64 65536, .int .i64 0, .int .i64 0, .int .i64 65536, .int .i64 0, .int .i64 0, .int .i64 255, .bool false, .bool false, .int .i64 0, .int .i64 0, .int .i64 0, .int .i64 0, .int .i64 0, .int .i64 0, .int .i64 0, .int .u32 0, .int .i64 0, .int .i64 0, .slice none 0 0] rfl (by simp) (by kernel_rfl) rfl ?_; intro w9 HW9 HK9)))
  have HJ9 : Hid (JBs [(w8.heap.size, [.int .i64 65536, .int .i64 0, .int .i64 0, .int .i64 65536, .int .i64 0, .int .i64 0, .int .i64 255, .bool false, .bool false, .int .i64 0, .int .i64 0, .int .i64 0, .int .i64 0, .int .i64 0, .int .i64 0, .int .i64 0, .int .u32 0, .int .i64 0, .int .i64 0, .slice none 0 0]), (g5, [.int .i64 65536, .int .i64 0, .int .i64 0, .int .i64 65536, .int .i64 0, .int .i64 0, .int .i64 255, .bool false, .bool false, .int .i64 0, .int .i64 0, .int .i64 0, .int .i64 0, .int .i64 2, .int .i64 0, .int .i64 0, .int .u32 0, .int .i64 1, .int .i64 1, .slice A9 1 c9]), (g2, [.int .i64 1, .int .i64 2, .int .i64 1, .int .u32 255, .int .i64 0, .int .i64 0, .slice none 0 0]), (g1, [.int .i64 65536, .int .i64 0, .int .i64 0, .int .i64 65536, .int .i64 0, .int .i64 0, .int .i64 255, .bool false, .bool false, .int .i64 0, .int .i64 0, .int .i64 0, .int .i64 0, .int .i64 0, .int .i64 0, .int .i64 0, .int .u32 0, .int .i64 0, .int .i64 0, .slice none 0 0])] w9) := HJ8.out.made HW9.out HK9.out
  have HB9 := Lib.hid (HW9.out.made HB8.out)
  have HR9 : Hid (Row eW w9 A9 [7]) := (HR8.out.alloc _).by_block fun b o e => HW9.out.far (HA8.out b o e)
  have h56 : g5 ≠ w8.heap.size := Nat.ne_of_lt HJ8.out.1.inside
  have h26 : g2 ≠ w8.heap.size := Nat.ne_of_lt HJ8.out.2.1.inside
  have h16 : g1 ≠ w8.heap.size := Nat.ne_of_lt HJ8.out.2.2.1.inside
  have HL8 : Hid (w.heap.size ≤ w8.heap.size) := HB8.out.size
  clear HW9 HK9 HB8 HJ8 HR8 K1
  generalize w8.heap.size = g6 at *
  have HW10 : Hid (Wrote g6 w9 (w9.setCell ⟨g6, 6, none⟩ (.int .i64 256))) := ⟨6, [.int .i64 256], rfl⟩
  have HJ10 : Hid (JBs [(g6, [.int .i64 65536, .int .i64 0, .int .i64 0, .int .i64 65536, .int .i64 0, .int .i64 0, .int .i64 256, .bool false, .bool false, .int .i64 0, .int .i64 0, .int .i64 0, .int .i64 0, .int .i64 0, .int .i64 0, .int .i64 0, .int .u32 0, .int .i64 0, .int .i64 0, .slice none 0 0]), (g5, [.int .i64 65536, .int .i64 0, .int .i64 0, .int .i64 65536, .int .i64 0, .int .i64 0, .int .i64 255, .bool false, .bool false, .int .i64 0, .int .i64 0, .int .i64 0, .int .i64 0, .int .i64 2, .int .i64 0, .int .i64 0, .int .u32 0, .int .i64 1, .int .i64 1, .slice A9 1 c9]), (g2, [.int .i64 1, .int .i64 2, .int .i64 1, .int .u32 255, .int .i64 0, .int .i64 0, .slice none 0 0]), (g1, [.int .i64 65536, .int .i64 0, .int .i64 0, .int .i64 65536, .int .i64 0, .int .i64 0, .int .i64 255, .bool false, .bool false, .int .i64 0, .int .i64 0, .int .i64 0, .int .i64 0, .int .i64 0, .int .i64 0, .int .i64 0, .int .u32 0, .int .i64 0, .int .i64 0, .slice none 0 0])] (w9.setCell ⟨g6, 6, none⟩ (.int .i64 256))) := ⟨HJ9.out.1.set 6 (.int .i64 256), HW10.out.blk h56 HJ9.out.2.1, HW10.out.blk h26 HJ9.out.2.2.1, HW10.out.blk h16 HJ9.out.2.2.2.1, trivial⟩
  have HB10 := Lib.hid (HW10.out.below HB9.out HL8.out)
  have HR10 : Hid (Row eW (w9.setCell ⟨g6, 6, none⟩ (.int .i64 256)) A9 [7]) := HR9.out.by_block fun b o e => HW10.out.far (HA8.out b o e)
  have K1 : Hid (Blk (w9.setCell ⟨g6, 6, none⟩ (.int .i64 256)) g1 [.int .i64 65536, .int .i64 0, .int .i64 0, .int .i64 65536, .int .i64 0, .int .i64 0, .int .i64 255, .bool false, .bool false, .int .i64 0, .int .i64 0, .int .i64 0, .int .i64 0, .int .i64 0, .int .i64 0, .int .i64 0, .int .u32 0, .int .i64 0, .int .i64 0, .slice none 0 0]) := HJ10.out.2.2.2.1
  have K9 : Hid (Blk w9 g6 [.int .i64 65536, .int .i64 0, .int .i64 0, .int .i64 65536, .int .i64 0, .int .i64 0, .int .i64 255, .bool false, .bool false, .int .i64 0, .int .i64 0, .int .i64 0, .int .i64 0, .int .i64 0, .int .i64 0, .int .i64 0, .int .u32 0, .int .i64 0, .int .i64 0, .slice none 0 0]) := HJ9.out.1
  have c6 : w9.cell? ⟨g6, 6, none⟩ = some (.int .i64 255) := K9.out.cell 6
  have f6 : w9.frozen? ⟨g6, 6, none⟩ = false := K9.out.free 6
  have i6 : g6 < w9.heap.size := K9.out.inside
  go_wp2_with (fail)
  clear K1 K9 c6 f6 i6 HW10 HJ9 HB9 HR9 HA8
  generalize w9.setCell ⟨g6, 6, none⟩ (.int .i64 256) = w10 at *
  have HJR : Hid (JR [(g6, [.int .i64 65536, .int .i64 0, .int .i64 0, .int .i64 65536, .int .i64 0, .int .i64 0, .int .i64 256, .bool false, .bool false, .int .i64 0, .int .i64 0, .int .i64 0, .int .i64 0, .int .i64 0, .int .i64 0, .int .i64 0, .int .u32 0, .int .i64 0, .int .i64 0, .slice none 0 0]), (g5, [.int .i64 65536, .int .i64 0, .int .i64 0, .int .i64 65536, .int .i64 0, .int .i64 0, .int .i64 255, .bool false, .bool false, .int .i64 0, .int .i64 0, .int .i64 0, .int .i64 0, .int .i64 2, .int .i64 0, .int .i64 0, .int .u32 0, .int .i64 1, .int .i64 1, .slice A9 1 c9]), (g2, [.int .i64 1, .int .i64 2, .int .i64 1, .int .u32 255, .int .i64 0, .int .i64 0, .slice none 0 0]), (g1, [.int .i64 65536, .int .i64 0, .int .i64 0, .int .i64 65536, .int .i64 0, .int .i64 0, .int .i64 255, .bool false, .bool false, .int .i64 0, .int .i64 0, .int .i64 0, .int .i64 0, .int .i64 0, .int .i64 0, .int .i64 0, .int .u32 0, .int .i64 0, .int .i64 0, .slice none 0 0])] A9 w10) := ⟨HJ10.out, HR10.out⟩
  clear HJ10 HR10
  simp only [List.append]
  refine regs.wp_region_put (regs.bl) (fun _ wx => JR [(g6, [.int .i64 65536, .int .i64 0, .int .i64 0, .int .i64 65536, .int .i64 0, .int .i64 0, .int .i64 256, .bool false, .bool false, .int .i64 0, .int .i64 0, .int .i64 0, .int .i64 0, .int .i64 0, .int .i64 0, .int .i64 0, .int .u32 0, .int .i64 0, .int .i64 0, .slice none 0 0]), (g5, [.int .i64 65536, .int .i64 0, .int .i64 0, .int .i64 65536, .int .i64 0, .int .i64 0, .int .i64 255, .bool false, .bool false, .int .i64 0, .int .i64 0, .int .i64 0, .int .i64 0, .int .i64 2, .int .i64 0, .int .i64 0, .int .u32 0, .int .i64 1, .int .i64 1, .slice A9 1 c9]), (g2, [.int .i64 1, .int .i64 2, .int .i64 1, .int .u32 255, .int .i64 0, .int .i64 0, .slice none 0 0]), (g1, [.int .i64 65536, .int .i64 0, .int .i64 0, .int .i64 65536, .int .i64 0, .int .i64 0, .int .i64 255, .bool false, .bool false, .int .i64 0, .int .i64 0, .int .i64 0, .int .i64 0, .int .i64 0, .int .i64 0, .int .i64 0, .int .u32 0, .int .i64 0, .int .i64 0, .slice none 0 0])] A9 wx) [21, 22, 23, 24, 25, 26, 27, 28, 29, 30, 31, 32, 33, 34, 35, 36, 37, 38, 39, 40, 41, 42, 43, 44, 45, 46, 47, 48, 49, 50, 51, 52, 53, 54, 55, 56, 57, 58, 59, 60, 61, 62, 63, 64, 65, 66, 67, 68, 69, 70, 71, 72, 73, 74, 75, 76, 77, 78, 79, 80, 81, 82, 83, 84, 85, 0] (by kernel_rfl) (by kernel_rfl) (fun _ => regs.bl_refl _) (regs.bl_trans) (fun i => (match i with
    | 0 => regs.Say.val _ (.agg #[.int .i64 65536, .int .i64 0, .int .i64 0, .int .i64 65536, .int .i64 0, .int .i64 0, .int .i64 255, .bool false, .bool false, .int .i64 0, .int .i64 0, .int .i64 0, .int .i64 0, .int .i64 0, .int .i64 0, .int .i64 0, .int .u32 0, .int .i64 0, .int .i64 0, .slice none 0 0])
    | 1 => regs.Say.val _ (.int .i64 0)
    | 2 => regs.Say.val _ (.bool true)
    | 3 => regs.Say.val _ (.bool true)
    | 4 => regs.Say.val _ (.pointer (some ⟨g1, 0, none⟩))
    | 5 => regs.Say.val _ (.agg #[.int .i64 65536, .int .i64 0, .int .i64 0, .int .i64 65536, .int .i64 0, .int .i64 0])
    | 6 => regs.Say.val _ (.agg #[.int .i64 65536, .int .i64 0, .int .i64 0, .int .i64 65536, .int .i64 0, .int .i64 0])
    | 7 => regs.Say.val _ (.bool true)
    | 8 => regs.Say.val _ (.bool true)
    | 9 => regs.Say.val _ (.bool true)
    | 10 => regs.Say.val _ (.agg #[.int .i64 1, .int .i64 2, .int .i64 1, .int .u32 255, .int .i64 0, .int .i64 0, .slice none 0 0])
    | 11 => regs.Say.val _ (.int .i64 0)
    | 12 => regs.Say.val _ (.bool true)
    | 13 => regs.Say.val _ (.bool true)
    | 14 => regs.Say.val _ (.bool true)
    | 15 => regs.Say.val _ (.int .i64 2)
    | 16 => regs.Say.val _ (.bool true)
    | 17 => regs.Say.val _ (.bool true)
    | 18 => regs.Say.val _ (.bool true)
    | 19 => regs.Say.val _ (.int .i64 1)
    | 20 => regs.Say.val _ (.bool true)
    | 21 => regs.Say.val _ (.bool true)
    | 22 => regs.Say.val _ (.bool true)
    | 23 => regs.Say.val _ (.agg #[.int .i64 1, .int .i64 2, .int .i64 1, .int .u32 255, .int .i64 0, .int .i64 0, .slice none 0 0])
    | 24 => regs.Say.val _ (.int .u32 255)
    | 25 => regs.Say.val _ (.bool true)
    | 26 => regs.Say.val _ (.bool true)
    | 27 => regs.Say.val _ (.bool true)
    | 28 => regs.Say.val _ (.agg #[.int .i64 1, .int .i64 2, .int .i64 1, .int .u32 255, .int .i64 0, .int .i64 0, .slice none 0 0])
    | 29 => regs.Say.val _ (.int .u32 0)
    | 30 => regs.Say.val _ (.bool true)
    | 31 => regs.Say.val _ (.bool true)
    | 32 => regs.Say.val _ (.bool true)
    | 33 => regs.Say.val _ (.agg #[.int .i64 65536, .int .i64 0, .int .i64 0, .int .i64 65536, .int .i64 0, .int .i64 0, .int .i64 255, .bool false, .bool false, .int .i64 0, .int .i64 0, .int .i64 0, .int .i64 0, .int .i64 2, .int .i64 0, .int .i64 0, .int .u32 0, .int .i64 1, .int .i64 1, .slice A9 1 c9])
    | 34 => regs.Say.val _ (.int .i64 0)
    | 35 => regs.Say.val _ (.bool true)
    | 36 => regs.Say.val _ (.bool true)
    | 37 => regs.Say.val _ (.bool true)
    | 38 => regs.Say.val _ (.pointer (some ⟨g5, 13, none⟩))
    | 39 => regs.Say.val _ (.agg #[.int .i64 2, .int .i64 0, .int .i64 0, .int .u32 0, .int .i64 1, .int .i64 1, .slice A9 1 c9])
    | 40 => regs.Say.val _ (.int .u32 7)
    | 41 => regs.Say.val _ (.bool true)
    | 42 => regs.Say.val _ (.bool true)
    | 43 => regs.Say.val _ (.bool true)
    | 44 => regs.Say.val _ (.agg #[.int .i64 65536, .int .i64 0, .int .i64 0, .int .i64 65536, .int .i64 0, .int .i64 0, .int .i64 256, .bool false, .bool false, .int .i64 0, .int .i64 0, .int .i64 0, .int .i64 0, .int .i64 0, .int .i64 0, .int .i64 0, .int .u32 0, .int .i64 0, .int .i64 0, .slice none 0 0])
    | 45 => regs.Say.val _ (.int .i64 11)
    | 46 => regs.Say.val _ (.bool true)
    | 47 => regs.Say.val _ (.bool true)
    | 48 => regs.Say.val _ (.bool true)
    | 49 => regs.Say.val _ (.agg #[.int .i64 65536, .int .i64 0, .int .i64 0, .int .i64 65536, .int .i64 0, .int .i64 0, .int .i64 255, .bool false, .bool false, .int .i64 0, .int .i64 0, .int .i64 0, .int .i64 0, .int .i64 2, .int .i64 0, .int .i64 0, .int .u32 0, .int .i64 1, .int .i64 1, .slice A9 1 c9])
    | 50 => regs.Say.val _ (.agg #[.int .i64 65536, .int .i64 0, .int .i64 0, .int .i64 65536, .int .i64 0, .int .i64 0, .int .i64 255, .bool false, .bool false, .int .i64 0, .int .i64 0, .int .i64 0, .int .i64 0, .int .i64 2, .int .i64 0, .int .i64 0, .int .u32 0, .int .i64 1, .int .i64 1, .slice A9 1 c9])
    | 51 => sayCp
    | 52 => regs.Say.val _ (.bool true)
    | 53 => regs.Say.val _ (.bool true)
    | 54 => regs.Say.val _ (.bool true)
    | 55 => regs.Say.val _ (.agg #[.int .i64 65536, .int .i64 0, .int .i64 0, .int .i64 65536, .int .i64 0, .int .i64 0, .int .i64 255, .bool false, .bool false, .int .i64 0, .int .i64 0, .int .i64 0, .int .i64 0, .int .i64 2, .int .i64 0, .int .i64 0, .int .u32 0, .int .i64 1, .int .i64 1, .slice A9 1 c9])
    | 56 => regs.Say.val _ (.agg #[.int .i64 65536, .int .i64 0, .int .i64 0, .int .i64 65536, .int .i64 0, .int .i64 0, .int .i64 255, .bool false, .bool false, .int .i64 0, .int .i64 0, .int .i64 0, .int .i64 0, .int .i64 0, .int .i64 0, .int .i64 0, .int .u32 0, .int .i64 0, .int .i64 0, .slice none 0 0])
    | 57 => regs.Say.val _ (.bool false)
    | 58 => regs.Say.val _ (.bool true)
    | 59 => regs.Say.val _ (.bool true)
    | 60 => regs.Say.val _ (.bool true)
    | 61 => regs.Say.val _ (.agg #[.int .i64 0, .int .i64 1, .int .i64 0, .int .u32 0, .int .i64 0, .int .i64 0, .slice none 0 0])
    | 62 => regs.Say.val _ (.int .i64 10)
    | 63 => regs.Say.val _ (.bool true)
    | 64 => regs.Say.val _ (.bool true)
    | 65 => regs.Say.val _ (.bool true)
    | _ => regs.Say.any _ : regs.Say (regs.bl)).p) (fun _ => regs.Say.mono _) (by kernel_rfl) ((Below.refl _ _).drew) (HJR.out) ⟨?_, ?_, ?_, ?_, ?_, ?_, ?_, ?_, ?_, ?_, ?_, ?_, ?_, ?_, ?_, ?_, ?_, ?_, ?_, ?_, ?_, ?_, ?_, ?_, ?_, ?_, ?_, ?_, ?_, ?_, ?_, ?_, ?_, ?_, ?_, ?_, ?_, ?_, ?_, ?_, ?_, ?_, ?_, ?_, ?_, ?_, ?_, ?_, ?_, ?_, ?_, ?_, ?_, ?_, ?_, ?_, ?_, ?_, ?_, ?_, ?_, ?_, ?_, ?_, ?_, ?_, trivial⟩ ?_
  · refine regs.StepOK.plain rfl fun L a w1 hh => ?_
    have h1 : a.tmps[1]?.getD undef = .pointer (some ⟨g1, 0, none⟩) := by rw [← Array.getD_eq_getD_getElem?]; exact hh.old 1 rfl
    have hJ := Lib.hid hh.st
    exact wp_take 34 _ rfl g1 0 (hh.old 1 rfl) _ (show Blk w1 g1 [.int .i64 65536, .int .i64 0, .int .i64 0, .int .i64 65536, .int .i64 0, .int .i64 0, .int .i64 255, .bool false, .bool false, .int .i64 0, .int .i64 0, .int .i64 0, .int .i64 0, .int .i64 0, .int .i64 0, .int .i64 0, .int .u32 0, .int .i64 0, .int .i64 0, .slice none 0 0] from hJ.out.1.2.2.2.1) [.int .i64 65536, .int .i64 0, .int .i64 0, .int .i64 65536, .int .i64 0, .int .i64 0, .int .i64 255, .bool false, .bool false, .int .i64 0, .int .i64 0, .int .i64 0, .int .i64 0, .int .i64 0, .int .i64 0, .int .i64 0, .int .u32 0, .int .i64 0, .int .i64 0, .slice none 0 0] rfl _ Try.underlying34 rfl (by kernel_rfl) ⟨_, rfl, regs.bl_refl _, rfl, hJ.out⟩
  · refine regs.StepOK.plain rfl fun L a w1 hh => ?_
    have h21 : a.tmps[21]?.getD undef = .agg #[.int .i64 65536, .int .i64 0, .int .i64 0, .int .i64 65536, .int .i64 0, .int .i64 0, .int .i64 255, .bool false, .bool false, .int .i64 0, .int .i64 0, .int .i64 0, .int .i64 0, .int .i64 0, .int .i64 0, .int .i64 0, .int .u32 0, .int .i64 0, .int .i64 0, .slice none 0 0] := by rw [← Array.getD_eq_getD_getElem?]; exact hh.dep 0 21 (by kernel_rfl) (by kernel_rfl)
    have := True.intro
    have hJ := Lib.hid hh.st
    clear hh
    go_simp
    refine (P3.out w1).mono ?_
    rintro e w9 ⟨rfl, hb9⟩
    exact ⟨_, rfl, hb9, rfl, JR.below hJ.out hb9⟩
  · refine regs.StepOK.plain rfl fun L a w1 hh => ?_
    have h22 : a.tmps[22]?.getD undef = .int .i64 0 := by rw [← Array.getD_eq_getD_getElem?]; exact hh.dep 1 22 (by kernel_rfl) (by kernel_rfl)
    have hJ := Lib.hid hh.st
    clear hh
    go_simp
    exact ⟨_, rfl, regs.bl_refl _, rfl, hJ.out⟩
  · refine regs.StepOK.plain rfl fun L a w1 hh => ?_
    have h23 : a.tmps[23]?.getD undef = .bool true := by rw [← Array.getD_eq_getD_getElem?]; exact hh.dep 2 23 (by kernel_rfl) (by kernel_rfl)
    have hJ := Lib.hid hh.st
    clear hh
    go_simp
    exact ⟨_, rfl, regs.bl_refl _, rfl, hJ.out⟩
  · refine regs.StepOK.yes 3 true 24 rfl rfl (fun L a w1 hh => hh.dep 3 24 (by kernel_rfl) (by kernel_rfl)) fun L a w1 hh => ?_
    have h1 : a.tmps[1]?.getD undef = .pointer (some ⟨g1, 0, none⟩) := by rw [← Array.getD_eq_getD_getElem?]; exact hh.old 1 rfl
    have hJ := Lib.hid hh.st
    clear hh
    go_simp
    exact ⟨_, rfl, regs.bl_refl _, rfl, hJ.out⟩
  · refine regs.StepOK.yes 3 true 24 rfl rfl (fun L a w1 hh => hh.dep 3 24 (by kernel_rfl) (by kernel_rfl)) fun L a w1 hh => ?_
    have h25 : a.tmps[25]?.getD undef = .pointer (some ⟨g1, 0, none⟩) := by rw [← Array.getD_eq_getD_getElem?]; exact hh.dep 4 25 (by kernel_rfl) (by kernel_rfl)
    obtain ⟨⟨c0, c1, c2, c3, c4, c5, c6, c7, c8, c9, c10, c11, c12, c13, c14, c15, c16, c17, c18, c19⟩, -, ci⟩ := (hh.st.1.2.2.2.1).c20
    have hJ := Lib.hid hh.st
    clear hh
    go_simp
    exact ⟨_, rfl, regs.bl_refl _, rfl, hJ.out⟩
  · refine regs.StepOK.yes 3 true 24 rfl rfl (fun L a w1 hh => hh.dep 3 24 (by kernel_rfl) (by kernel_rfl)) fun L a w1 hh => ?_
    have := True.intro
    have hJ := Lib.hid hh.st
    clear hh
    go_simp
    refine (P4.out w1).mono ?_
    rintro e w9 ⟨rfl, hb9⟩
    exact ⟨_, rfl, hb9, rfl, JR.below hJ.out hb9⟩
  · refine regs.StepOK.yes 3 true 24 rfl rfl (fun L a w1 hh => hh.dep 3 24 (by kernel_rfl) (by kernel_rfl)) fun L a w1 hh => ?_
    have h26 : a.tmps[26]?.getD undef = .agg #[.int .i64 65536, .int .i64 0, .int .i64 0, .int .i64 65536, .int .i64 0, .int .i64 0] := by rw [← Array.getD_eq_getD_getElem?]; exact hh.dep 5 26 (by kernel_rfl) (by kernel_rfl)
    have h27 : a.tmps[27]?.getD undef = .agg #[.int .i64 65536, .int .i64 0, .int .i64 0, .int .i64 65536, .int .i64 0, .int .i64 0] := by rw [← Array.getD_eq_getD_getElem?]; exact hh.dep 6 27 (by kernel_rfl) (by kernel_rfl)
    have eqst := q4
    have hJ := Lib.hid hh.st
    clear hh
    go_simp
    exact ⟨_, rfl, regs.bl_refl _, rfl, hJ.out⟩
  · refine regs.StepOK.plain rfl fun L a w1 hh => ?_
    have h24 : a.tmps[24]?.getD undef = .bool true := by rw [← Array.getD_eq_getD_getElem?]; exact hh.dep 3 24 (by kernel_rfl) (by kernel_rfl)
    have h28 : a.tmps[28]?.getD undef = .bool true := by rw [← Array.getD_eq_getD_getElem?]; exact hh.dep 7 28 (by kernel_rfl) (by kernel_rfl)
    have hJ := Lib.hid hh.st
    clear hh
    go_simp
    exact ⟨_, rfl, regs.bl_refl _, rfl, hJ.out⟩
  · refine regs.StepOK.plain rfl fun L a w1 hh => ?_
    have h29 : a.tmps[29]?.getD undef = .bool true := by rw [← Array.getD_eq_getD_getElem?]; exact hh.dep 8 29 (by kernel_rfl) (by kernel_rfl)
    have hJ := Lib.hid hh.st
    clear hh
    go_simp
    exact ⟨_, rfl, regs.bl_refl _, rfl, hJ.out⟩
  · refine regs.StepOK.yes 9 true 30 rfl rfl (fun L a w1 hh => hh.dep 9 30 (by kernel_rfl) (by kernel_rfl)) fun L a w1 hh => ?_
    have h2 : a.tmps[2]?.getD undef = .pointer (some ⟨g2, 0, none⟩) := by rw [← Array.getD_eq_getD_getElem?]; exact hh.old 2 rfl
    obtain ⟨⟨c0, c1, c2, c3, c4, c5, c6⟩, -, ci⟩ := (hh.st.1.2.2.1).c7
    have hJ := Lib.hid hh.st
    clear hh
    go_simp
    exact ⟨_, rfl, regs.bl_refl _, rfl, hJ.out⟩
  · refine regs.StepOK.yes 9 true 30 rfl rfl (fun L a w1 hh => hh.dep 9 30 (by kernel_rfl) (by kernel_rfl)) fun L a w1 hh => ?_
    have h31 : a.tmps[31]?.getD undef = .agg #[.int .i64 1, .int .i64 2, .int .i64 1, .int .u32 255, .int .i64 0, .int .i64 0, .slice none 0 0] := by rw [← Array.getD_eq_getD_getElem?]; exact hh.dep 10 31 (by kernel_rfl) (by kernel_rfl)
    have := True.intro
    have hJ := Lib.hid hh.st
    clear hh
    go_simp
    refine (P5.out w1).mono ?_
    rintro e w9 ⟨rfl, hb9⟩
    exact ⟨_, rfl, hb9, rfl, JR.below hJ.out hb9⟩
  · refine regs.StepOK.yes 9 true 30 rfl rfl (fun L a w1 hh => hh.dep 9 30 (by kernel_rfl) (by kernel_rfl)) fun L a w1 hh => ?_
    have h32 : a.tmps[32]?.getD undef = .int .i64 0 := by rw [← Array.getD_eq_getD_getElem?]; exact hh.dep 11 32 (by kernel_rfl) (by kernel_rfl)
    have hJ := Lib.hid hh.st
    clear hh
    go_simp
    exact ⟨_, rfl, regs.bl_refl _, rfl, hJ.out⟩
  · refine regs.StepOK.plain rfl fun L a w1 hh => ?_
    have h30 : a.tmps[30]?.getD undef = .bool true := by rw [← Array.getD_eq_getD_getElem?]; exact hh.dep 9 30 (by kernel_rfl) (by kernel_rfl)
    have h33 : a.tmps[33]?.getD undef = .bool true := by rw [← Array.getD_eq_getD_getElem?]; exact hh.dep 12 33 (by kernel_rfl) (by kernel_rfl)
    have hJ := Lib.hid hh.st
    clear hh
    go_simp
    exact ⟨_, rfl, regs.bl_refl _, rfl, hJ.out⟩
  · refine regs.StepOK.plain rfl fun L a w1 hh => ?_
    have h34 : a.tmps[34]?.getD undef = .bool true := by rw [← Array.getD_eq_getD_getElem?]; exact hh.dep 13 34 (by kernel_rfl) (by kernel_rfl)
    have hJ := Lib.hid hh.st
    clear hh
    go_simp
    exact ⟨_, rfl, regs.bl_refl _, rfl, hJ.out⟩
  · refine regs.StepOK.yes 14 true 35 rfl rfl (fun L a w1 hh => hh.dep 14 35 (by kernel_rfl) (by kernel_rfl)) fun L a w1 hh => ?_
    have h3 : a.tmps[3]?.getD undef = .int .i64 2 := by rw [← Array.getD_eq_getD_getElem?]; exact hh.old 3 rfl
    have hJ := Lib.hid hh.st
    clear hh
    go_simp
    exact ⟨_, rfl, regs.bl_refl _, rfl, hJ.out⟩
  · refine regs.StepOK.yes 14 true 35 rfl rfl (fun L a w1 hh => hh.dep 14 35 (by kernel_rfl) (by kernel_rfl)) fun L a w1 hh => ?_
    have h36 : a.tmps[36]?.getD undef = .int .i64 2 := by rw [← Array.getD_eq_getD_getElem?]; exact hh.dep 15 36 (by kernel_rfl) (by kernel_rfl)
    have hJ := Lib.hid hh.st
    clear hh
    go_simp
    exact ⟨_, rfl, regs.bl_refl _, rfl, hJ.out⟩
  · refine regs.StepOK.plain rfl fun L a w1 hh => ?_
    have h35 : a.tmps[35]?.getD undef = .bool true := by rw [← Array.getD_eq_getD_getElem?]; exact hh.dep 14 35 (by kernel_rfl) (by kernel_rfl)
    have h37 : a.tmps[37]?.getD undef = .bool true := by rw [← Array.getD_eq_getD_getElem?]; exact hh.dep 16 37 (by kernel_rfl) (by kernel_rfl)
    have hJ := Lib.hid hh.st
    clear hh
    go_simp
    exact ⟨_, rfl, regs.bl_refl _, rfl, hJ.out⟩
  · refine regs.StepOK.plain rfl fun L a w1 hh => ?_
    have h38 : a.tmps[38]?.getD undef = .bool true := by rw [← Array.getD_eq_getD_getElem?]; exact hh.dep 17 38 (by kernel_rfl) (by kernel_rfl)
    have hJ := Lib.hid hh.st
    clear hh
    go_simp
    exact ⟨_, rfl, regs.bl_refl _, rfl, hJ.out⟩
  · refine regs.StepOK.yes 18 true 39 rfl rfl (fun L a w1 hh => hh.dep 18 39 (by kernel_rfl) (by kernel_rfl)) fun L a w1 hh => ?_
    have h4 : a.tmps[4]?.getD undef = .int .i64 1 := by rw [← Array.getD_eq_getD_getElem?]; exact hh.old 4 rfl
    have hJ := Lib.hid hh.st
    clear hh
    go_simp
    exact ⟨_, rfl, regs.bl_refl _, rfl, hJ.out⟩
  · refine regs.StepOK.yes 18 true 39 rfl rfl (fun L a w1 hh => hh.dep 18 39 (by kernel_rfl) (by kernel_rfl)) fun L a w1 hh => ?_
    have h40 : a.tmps[40]?.getD undef = .int .i64 1 := by rw [← Array.getD_eq_getD_getElem?]; exact hh.dep 19 40 (by kernel_rfl) (by kernel_rfl)
    have hJ := Lib.hid hh.st
    clear hh
    go_simp
    exact ⟨_, rfl, regs.bl_refl _, rfl, hJ.out⟩
  · refine regs.StepOK.plain rfl fun L a w1 hh => ?_
    have h39 : a.tmps[39]?.getD undef = .bool true := by rw [← Array.getD_eq_getD_getElem?]; exact hh.dep 18 39 (by kernel_rfl) (by kernel_rfl)
    have h41 : a.tmps[41]?.getD undef = .bool true := by rw [← Array.getD_eq_getD_getElem?]; exact hh.dep 20 41 (by kernel_rfl) (by kernel_rfl)
    have hJ := Lib.hid hh.st
    clear hh
    go_simp
    exact ⟨_, rfl, regs.bl_refl _, rfl, hJ.out⟩
  · refine regs.StepOK.plain rfl fun L a w1 hh => ?_
    have h42 : a.tmps[42]?.getD undef = .bool true := by rw [← Array.getD_eq_getD_getElem?]; exact hh.dep 21 42 (by kernel_rfl) (by kernel_rfl)
    have hJ := Lib.hid hh.st
    clear hh
    go_simp
    exact ⟨_, rfl, regs.bl_refl _, rfl, hJ.out⟩
  · refine regs.StepOK.yes 22 true 43 rfl rfl (fun L a w1 hh => hh.dep 22 43 (by kernel_rfl) (by kernel_rfl)) fun L a w1 hh => ?_
    have h2 : a.tmps[2]?.getD undef = .pointer (some ⟨g2, 0, none⟩) := by rw [← Array.getD_eq_getD_getElem?]; exact hh.old 2 rfl
    obtain ⟨⟨c0, c1, c2, c3, c4, c5, c6⟩, -, ci⟩ := (hh.st.1.2.2.1).c7
    have hJ := Lib.hid hh.st
    clear hh
    go_simp
    exact ⟨_, rfl, regs.bl_refl _, rfl, hJ.out⟩
  · refine regs.StepOK.yes 22 true 43 rfl rfl (fun L a w1 hh => hh.dep 22 43 (by kernel_rfl) (by kernel_rfl)) fun L a w1 hh => ?_
    have h44 : a.tmps[44]?.getD undef = .agg #[.int .i64 1, .int .i64 2, .int .i64 1, .int .u32 255, .int .i64 0, .int .i64 0, .slice none 0 0] := by rw [← Array.getD_eq_getD_getElem?]; exact hh.dep 23 44 (by kernel_rfl) (by kernel_rfl)
    have := True.intro
    have hJ := Lib.hid hh.st
    clear hh
    go_simp
    refine (P6.out w1).mono ?_
    rintro e w9 ⟨rfl, hb9⟩
    exact ⟨_, rfl, hb9, rfl, JR.below hJ.out hb9⟩
  · refine regs.StepOK.yes 22 true 43 rfl rfl (fun L a w1 hh => hh.dep 22 43 (by kernel_rfl) (by kernel_rfl)) fun L a w1 hh => ?_
    have h45 : a.tmps[45]?.getD undef = .int .u32 255 := by rw [← Array.getD_eq_getD_getElem?]; exact hh.dep 24 45 (by kernel_rfl) (by kernel_rfl)
    have hJ := Lib.hid hh.st
    clear hh
    go_simp
    exact ⟨_, rfl, regs.bl_refl _, rfl, hJ.out⟩
  · refine regs.StepOK.plain rfl fun L a w1 hh => ?_
    have h43 : a.tmps[43]?.getD undef = .bool true := by rw [← Array.getD_eq_getD_getElem?]; exact hh.dep 22 43 (by kernel_rfl) (by kernel_rfl)
    have h46 : a.tmps[46]?.getD undef = .bool true := by rw [← Array.getD_eq_getD_getElem?]; exact hh.dep 25 46 (by kernel_rfl) (by kernel_rfl)
    have hJ := Lib.hid hh.st
    clear hh
    go_simp
    exact ⟨_, rfl, regs.bl_refl _, rfl, hJ.out⟩
  · refine regs.StepOK.plain rfl fun L a w1 hh => ?_
    have h47 : a.tmps[47]?.getD undef = .bool true := by rw [← Array.getD_eq_getD_getElem?]; exact hh.dep 26 47 (by kernel_rfl) (by kernel_rfl)
    have hJ := Lib.hid hh.st
    clear hh
    go_simp
    exact ⟨_, rfl, regs.bl_refl _, rfl, hJ.out⟩
  · refine regs.StepOK.yes 27 true 48 rfl rfl (fun L a w1 hh => hh.dep 27 48 (by kernel_rfl) (by kernel_rfl)) fun L a w1 hh => ?_
    have h2 : a.tmps[2]?.getD undef = .pointer (some ⟨g2, 0, none⟩) := by rw [← Array.getD_eq_getD_getElem?]; exact hh.old 2 rfl
    obtain ⟨⟨c0, c1, c2, c3, c4, c5, c6⟩, -, ci⟩ := (hh.st.1.2.2.1).c7
    have hJ := Lib.hid hh.st
    clear hh
    go_simp
    exact ⟨_, rfl, regs.bl_refl _, rfl, hJ.out⟩
  · refine regs.StepOK.yes 27 true 48 rfl rfl (fun L a w1 hh => hh.dep 27 48 (by kernel_rfl) (by kernel_rfl)) fun L a w1 hh => ?_
    have h49 : a.tmps[49]?.getD undef = .agg #[.int .i64 1, .int .i64 2, .int .i64 1, .int .u32 255, .int .i64 0, .int .i64 0, .slice none 0 0] := by rw [← Array.getD_eq_getD_getElem?]; exact hh.dep 28 49 (by kernel_rfl) (by kernel_rfl)
    have := True.intro
    have hJ := Lib.hid hh.st
    clear hh
    go_simp
    refine (P7.out w1).mono ?_
    rintro e w9 ⟨rfl, hb9⟩
    exact ⟨_, rfl, hb9, rfl, JR.below hJ.out hb9⟩
  · refine regs.StepOK.yes 27 true 48 rfl rfl (fun L a w1 hh => hh.dep 27 48 (by kernel_rfl) (by kernel_rfl)) fun L a w1 hh => ?_
    have h50 : a.tmps[50]?.getD undef = .int .u32 0 := by rw [← Array.getD_eq_getD_getElem?]; exact hh.dep 29 50 (by kernel_rfl) (by kernel_rfl)
    have hJ := Lib.hid hh.st
    clear hh
    go_simp
    exact ⟨_, rfl, regs.bl_refl _, rfl, hJ.out⟩
  · refine regs.StepOK.plain rfl fun L a w1 hh => ?_
    have h48 : a.tmps[48]?.getD undef = .bool true := by rw [← Array.getD_eq_getD_getElem?]; exact hh.dep 27 48 (by kernel_rfl) (by kernel_rfl)
    have h51 : a.tmps[51]?.getD undef = .bool true := by rw [← Array.getD_eq_getD_getElem?]; exact hh.dep 30 51 (by kernel_rfl) (by kernel_rfl)
    have hJ := Lib.hid hh.st
    clear hh
    go_simp
    exact ⟨_, rfl, regs.bl_refl _, rfl, hJ.out⟩
  · refine regs.StepOK.plain rfl fun L a w1 hh => ?_
    have h52 : a.tmps[52]?.getD undef = .bool true := by rw [← Array.getD_eq_getD_getElem?]; exact hh.dep 31 52 (by kernel_rfl) (by kernel_rfl)
    have hJ := Lib.hid hh.st
    clear hh
    go_simp
    exact ⟨_, rfl, regs.bl_refl _, rfl, hJ.out⟩
  · refine regs.StepOK.yes 32 true 53 rfl rfl (fun L a w1 hh => hh.dep 32 53 (by kernel_rfl) (by kernel_rfl)) fun L a w1 hh => ?_
    have h5 : a.tmps[5]?.getD undef = .pointer (some ⟨g5, 0, none⟩) := by rw [← Array.getD_eq_getD_getElem?]; exact hh.old 5 rfl
    have hJ := Lib.hid hh.st
    exact wp_take 34 _ rfl g5 0 (hh.old 5 rfl) _ (show Blk w1 g5 [.int .i64 65536, .int .i64 0, .int .i64 0, .int .i64 65536, .int .i64 0, .int .i64 0, .int .i64 255, .bool false, .bool false, .int .i64 0, .int .i64 0, .int .i64 0, .int .i64 0, .int .i64 2, .int .i64 0, .int .i64 0, .int .u32 0, .int .i64 1, .int .i64 1, .slice A9 1 c9] from hJ.out.1.2.1) [.int .i64 65536, .int .i64 0, .int .i64 0, .int .i64 65536, .int .i64 0, .int .i64 0, .int .i64 255, .bool false, .bool false, .int .i64 0, .int .i64 0, .int .i64 0, .int .i64 0, .int .i64 2, .int .i64 0, .int .i64 0, .int .u32 0, .int .i64 1, .int .i64 1, .slice A9 1 c9] rfl _ Try.underlying34 rfl (by kernel_rfl) ⟨_, rfl, regs.bl_refl _, rfl, hJ.out⟩
  · refine regs.StepOK.yes 32 true 53 rfl rfl (fun L a w1 hh => hh.dep 32 53 (by kernel_rfl) (by kernel_rfl)) fun L a w1 hh => ?_
    have h54 : a.tmps[54]?.getD undef = .agg #[.int .i64 65536, .int .i64 0, .int .i64 0, .int .i64 65536, .int .i64 0, .int .i64 0, .int .i64 255, .bool false, .bool false, .int .i64 0, .int .i64 0, .int .i64 0, .int .i64 0, .int .i64 2, .int .i64 0, .int .i64 0, .int .u32 0, .int .i64 1, .int .i64 1, .slice A9 1 c9] := by rw [← Array.getD_eq_getD_getElem?]; exact hh.dep 33 54 (by kernel_rfl) (by kernel_rfl)
    have := True.intro
    have hJ := Lib.hid hh.st
    clear hh
    go_simp
    refine (P8.out A9 c9 w1 hJ.out.2).mono ?_
    rintro e w9 ⟨rfl, hb9⟩
    exact ⟨_, rfl, hb9, rfl, JR.below hJ.out hb9⟩
  · refine regs.StepOK.yes 32 true 53 rfl rfl (fun L a w1 hh => hh.dep 32 53 (by kernel_rfl) (by kernel_rfl)) fun L a w1 hh => ?_
    have h55 : a.tmps[55]?.getD undef = .int .i64 0 := by rw [← Array.getD_eq_getD_getElem?]; exact hh.dep 34 55 (by kernel_rfl) (by kernel_rfl)
    have hJ := Lib.hid hh.st
    clear hh
    go_simp
    exact ⟨_, rfl, regs.bl_refl _, rfl, hJ.out⟩
  · refine regs.StepOK.plain rfl fun L a w1 hh => ?_
    have h53 : a.tmps[53]?.getD undef = .bool true := by rw [← Array.getD_eq_getD_getElem?]; exact hh.dep 32 53 (by kernel_rfl) (by kernel_rfl)
    have h56 : a.tmps[56]?.getD undef = .bool true := by rw [← Array.getD_eq_getD_getElem?]; exact hh.dep 35 56 (by kernel_rfl) (by kernel_rfl)
    have hJ := Lib.hid hh.st
    clear hh
    go_simp
    exact ⟨_, rfl, regs.bl_refl _, rfl, hJ.out⟩
  · refine regs.StepOK.plain rfl fun L a w1 hh => ?_
    have h57 : a.tmps[57]?.getD undef = .bool true := by rw [← Array.getD_eq_getD_getElem?]; exact hh.dep 36 57 (by kernel_rfl) (by kernel_rfl)
    have hJ := Lib.hid hh.st
    clear hh
    go_simp
    exact ⟨_, rfl, regs.bl_refl _, rfl, hJ.out⟩
  · refine regs.StepOK.yes 37 true 58 rfl rfl (fun L a w1 hh => hh.dep 37 58 (by kernel_rfl) (by kernel_rfl)) fun L a w1 hh => ?_
    have h5 : a.tmps[5]?.getD undef = .pointer (some ⟨g5, 0, none⟩) := by rw [← Array.getD_eq_getD_getElem?]; exact hh.old 5 rfl
    have hJ := Lib.hid hh.st
    clear hh
    go_simp
    exact ⟨_, rfl, regs.bl_refl _, rfl, hJ.out⟩
  · refine regs.StepOK.yes 37 true 58 rfl rfl (fun L a w1 hh => hh.dep 37 58 (by kernel_rfl) (by kernel_rfl)) fun L a w1 hh => ?_
    have h59 : a.tmps[59]?.getD undef = .pointer (some ⟨g5, 13, none⟩) := by rw [← Array.getD_eq_getD_getElem?]; exact hh.dep 38 59 (by kernel_rfl) (by kernel_rfl)
    obtain ⟨⟨c0, c1, c2, c3, c4, c5, c6, c7, c8, c9, c10, c11, c12, c13, c14, c15, c16, c17, c18, c19⟩, -, ci⟩ := (hh.st.1.2.1).c20
    have hJ := Lib.hid hh.st
    clear hh
    go_simp
    exact ⟨_, rfl, regs.bl_refl _, rfl, hJ.out⟩
  · refine regs.StepOK.yes 37 true 58 rfl rfl (fun L a w1 hh => hh.dep 37 58 (by kernel_rfl) (by kernel_rfl)) fun L a w1 hh => ?_
    have h60 : a.tmps[60]?.getD undef = .agg #[.int .i64 2, .int .i64 0, .int .i64 0, .int .u32 0, .int .i64 1, .int .i64 1, .slice A9 1 c9] := by rw [← Array.getD_eq_getD_getElem?]; exact hh.dep 39 60 (by kernel_rfl) (by kernel_rfl)
    have := True.intro
    have hJ := Lib.hid hh.st
    clear hh
    go_simp
    refine (P9.out A9 c9 w1 hJ.out.2).mono ?_
    rintro e w9 ⟨rfl, hb9⟩
    exact ⟨_, rfl, hb9, rfl, JR.below hJ.out hb9⟩
  · refine regs.StepOK.yes 37 true 58 rfl rfl (fun L a w1 hh => hh.dep 37 58 (by kernel_rfl) (by kernel_rfl)) fun L a w1 hh => ?_
    have h61 : a.tmps[61]?.getD undef = .int .u32 7 := by rw [← Array.getD_eq_getD_getElem?]; exact hh.dep 40 61 (by kernel_rfl) (by kernel_rfl)
    have hJ := Lib.hid hh.st
    clear hh
    go_simp
    exact ⟨_, rfl, regs.bl_refl _, rfl, hJ.out⟩
  · refine regs.StepOK.plain rfl fun L a w1 hh => ?_
    have h58 : a.tmps[58]?.getD undef = .bool true := by rw [← Array.getD_eq_getD_getElem?]; exact hh.dep 37 58 (by kernel_rfl) (by kernel_rfl)
    have h62 : a.tmps[62]?.getD undef = .bool true := by rw [← Array.getD_eq_getD_getElem?]; exact hh.dep 41 62 (by kernel_rfl) (by kernel_rfl)
    have hJ := Lib.hid hh.st
    clear hh
    go_simp
    exact ⟨_, rfl, regs.bl_refl _, rfl, hJ.out⟩
  · refine regs.StepOK.plain rfl fun L a w1 hh => ?_
    have h63 : a.tmps[63]?.getD undef = .bool true := by rw [← Array.getD_eq_getD_getElem?]; exact hh.dep 42 63 (by kernel_rfl) (by kernel_rfl)
    have hJ := Lib.hid hh.st
    clear hh
    go_simp
    exact ⟨_, rfl, regs.bl_refl _, rfl, hJ.out⟩
  · refine regs.StepOK.yes 43 true 64 rfl rfl (fun L a w1 hh => hh.dep 43 64 (by kernel_rfl) (by kernel_rfl)) fun L a w1 hh => ?_
    have h6 : a.tmps[6]?.getD undef = .pointer (some ⟨g6, 0, none⟩) := by rw [← Array.getD_eq_getD_getElem?]; exact hh.old 6 rfl
    have hJ := Lib.hid hh.st
    exact wp_take 34 _ rfl g6 0 (hh.old 6 rfl) _ (show Blk w1 g6 [.int .i64 65536, .int .i64 0, .int .i64 0, .int .i64 65536, .int .i64 0, .int .i64 0, .int .i64 256, .bool false, .bool false, .int .i64 0, .int .i64 0, .int .i64 0, .int .i64 0, .int .i64 0, .int .i64 0, .int .i64 0, .int .u32 0, .int .i64 0, .int .i64 0, .slice none 0 0] from hJ.out.1.1) [.int .i64 65536, .int .i64 0, .int .i64 0, .int .i64 65536, .int .i64 0, .int .i64 0, .int .i64 256, .bool false, .bool false, .int .i64 0, .int .i64 0, .int .i64 0, .int .i64 0, .int .i64 0, .int .i64 0, .int .i64 0, .int .u32 0, .int .i64 0, .int .i64 0, .slice none 0 0] rfl _ Try.underlying34 rfl (by kernel_rfl) ⟨_, rfl, regs.bl_refl _, rfl, hJ.out⟩
  · refine regs.StepOK.yes 43 true 64 rfl rfl (fun L a w1 hh => hh.dep 43 64 (by kernel_rfl) (by kernel_rfl)) fun L a w1 hh => ?_
    have h65 : a.tmps[65]?.getD undef = .agg #[.int .i64 65536, .int .i64 0, .int .i64 0, .int .i64 65536, .int .i64 0, .int .i64 0, .int .i64 256, .bool false, .bool false, .int .i64 0, .int .i64 0, .int .i64 0, .int .i64 0, .int .i64 0, .int .i64 0, .int .i64 0, .int .u32 0, .int .i64 0, .int .i64 0, .slice none 0 0] := by rw [← Array.getD_eq_getD_getElem?]; exact hh.dep 44 65 (by kernel_rfl) (by kernel_rfl)
    have := True.intro
    have hJ := Lib.hid hh.st
    clear hh
    go_simp
    refine (P10.out w1).mono ?_
    rintro e w9 ⟨rfl, hb9⟩
    exact ⟨_, rfl, hb9, rfl, JR.below hJ.out hb9⟩
  · refine regs.StepOK.yes 43 true 64 rfl rfl (fun L a w1 hh => hh.dep 43 64 (by kernel_rfl) (by kernel_rfl)) fun L a w1 hh => ?_
    have h66 : a.tmps[66]?.getD undef = .int .i64 11 := by rw [← Array.getD_eq_getD_getElem?]; exact hh.dep 45 66 (by kernel_rfl) (by kernel_rfl)
    have hJ := Lib.hid hh.st
    clear hh
    go_simp
    exact ⟨_, rfl, regs.bl_refl _, rfl, hJ.out⟩
  · refine regs.StepOK.plain rfl fun L a w1 hh => ?_
    have h64 : a.tmps[64]?.getD undef = .bool true := by rw [← Array.getD_eq_getD_getElem?]; exact hh.dep 43 64 (by kernel_rfl) (by kernel_rfl)
    have h67 : a.tmps[67]?.getD undef = .bool true := by rw [← Array.getD_eq_getD_getElem?]; exact hh.dep 46 67 (by kernel_rfl) (by kernel_rfl)
    have hJ := Lib.hid hh.st
    clear hh
    go_simp
    exact ⟨_, rfl, regs.bl_refl _, rfl, hJ.out⟩
  · refine regs.StepOK.plain rfl fun L a w1 hh => ?_
    have h68 : a.tmps[68]?.getD undef = .bool true := by rw [← Array.getD_eq_getD_getElem?]; exact hh.dep 47 68 (by kernel_rfl) (by kernel_rfl)
    have hJ := Lib.hid hh.st
    clear hh
    go_simp
    exact ⟨_, rfl, regs.bl_refl _, rfl, hJ.out⟩
  · refine regs.StepOK.yes 48 true 69 rfl rfl (fun L a w1 hh => hh.dep 48 69 (by kernel_rfl) (by kernel_rfl)) fun L a w1 hh => ?_
    have h5 : a.tmps[5]?.getD undef = .pointer (some ⟨g5, 0, none⟩) := by rw [← Array.getD_eq_getD_getElem?]; exact hh.old 5 rfl
    have hJ := Lib.hid hh.st
    exact wp_take 34 _ rfl g5 0 (hh.old 5 rfl) _ (show Blk w1 g5 [.int .i64 65536, .int .i64 0, .int .i64 0, .int .i64 65536, .int .i64 0, .int .i64 0, .int .i64 255, .bool false, .bool false, .int .i64 0, .int .i64 0, .int .i64 0, .int .i64 0, .int .i64 2, .int .i64 0, .int .i64 0, .int .u32 0, .int .i64 1, .int .i64 1, .slice A9 1 c9] from hJ.out.1.2.1) [.int .i64 65536, .int .i64 0, .int .i64 0, .int .i64 65536, .int .i64 0, .int .i64 0, .int .i64 255, .bool false, .bool false, .int .i64 0, .int .i64 0, .int .i64 0, .int .i64 0, .int .i64 2, .int .i64 0, .int .i64 0, .int .u32 0, .int .i64 1, .int .i64 1, .slice A9 1 c9] rfl _ Try.underlying34 rfl (by kernel_rfl) ⟨_, rfl, regs.bl_refl _, rfl, hJ.out⟩
  · refine regs.StepOK.yes 48 true 69 rfl rfl (fun L a w1 hh => hh.dep 48 69 (by kernel_rfl) (by kernel_rfl)) fun L a w1 hh => ?_
    have h5 : a.tmps[5]?.getD undef = .pointer (some ⟨g5, 0, none⟩) := by rw [← Array.getD_eq_getD_getElem?]; exact hh.old 5 rfl
    have hJ := Lib.hid hh.st
    exact wp_take 34 _ rfl g5 0 (hh.old 5 rfl) _ (show Blk w1 g5 [.int .i64 65536, .int .i64 0, .int .i64 0, .int .i64 65536, .int .i64 0, .int .i64 0, .int .i64 255, .bool false, .bool false, .int .i64 0, .int .i64 0, .int .i64 0, .int .i64 0, .int .i64 2, .int .i64 0, .int .i64 0, .int .u32 0, .int .i64 1, .int .i64 1, .slice A9 1 c9] from hJ.out.1.2.1) [.int .i64 65536, .int .i64 0, .int .i64 0, .int .i64 65536, .int .i64 0, .int .i64 0, .int .i64 255, .bool false, .bool false, .int .i64 0, .int .i64 0, .int .i64 0, .int .i64 0, .int .i64 2, .int .i64 0, .int .i64 0, .int .u32 0, .int .i64 1, .int .i64 1, .slice A9 1 c9] rfl _ Try.underlying34 rfl (by kernel_rfl) ⟨_, rfl, regs.bl_refl _, rfl, hJ.out⟩
  · refine regs.StepOK.yes 48 true 69 rfl rfl (fun L a w1 hh => hh.dep 48 69 (by kernel_rfl) (by kernel_rfl)) fun L a w1 hh => ?_
    have h71 : a.tmps[71]?.getD undef = .agg #[.int .i64 65536, .int .i64 0, .int .i64 0, .int .i64 65536, .int .i64 0, .int .i64 0, .int .i64 255, .bool false, .bool false, .int .i64 0, .int .i64 0, .int .i64 0, .int .i64 0, .int .i64 2, .int .i64 0, .int .i64 0, .int .u32 0, .int .i64 1, .int .i64 1, .slice A9 1 c9] := by rw [← Array.getD_eq_getD_getElem?]; exact hh.dep 50 71 (by kernel_rfl) (by kernel_rfl)
    have hJ := Lib.hid hh.st
    clear hh
    go_simp
    refine (P11.out A9 c9 w1 hJ.out.2).mono ?_
    rintro e w9 ⟨A8, c8, rfl, hx9, hb9⟩
    exact ⟨_, rfl, hb9, ⟨A8, c8, rfl, hx9.1⟩, JR.below hJ.out hb9⟩
  · refine regs.StepOK.yes 48 true 69 rfl rfl (fun L a w1 hh => hh.dep 48 69 (by kernel_rfl) (by kernel_rfl)) fun L a w1 hh => ?_
    have h70 : a.tmps[70]?.getD undef = .agg #[.int .i64 65536, .int .i64 0, .int .i64 0, .int .i64 65536, .int .i64 0, .int .i64 0, .int .i64 255, .bool false, .bool false, .int .i64 0, .int .i64 0, .int .i64 0, .int .i64 0, .int .i64 2, .int .i64 0, .int .i64 0, .int .u32 0, .int .i64 1, .int .i64 1, .slice A9 1 c9] := by rw [← Array.getD_eq_getD_getElem?]; exact hh.dep 49 70 (by kernel_rfl) (by kernel_rfl)
    obtain ⟨A8, c8, h72, hr8⟩ : ∃ A8 c8, a.tmps[72]?.getD undef = .agg #[.int .i64 65536, .int .i64 0, .int .i64 0, .int .i64 65536, .int .i64 0, .int .i64 0, .int .i64 255, .bool false, .bool false, .int .i64 0, .int .i64 0, .int .i64 0, .int .i64 0, .int .i64 2, .int .i64 0, .int .i64 0, .int .u32 0, .int .i64 1, .int .i64 1, .slice A8 1 c8] ∧ Row eW w1 A8 [7] := by rw [← Array.getD_eq_getD_getElem?]; exact hh.dep 51 72 (by kernel_rfl) (by kernel_rfl)
    have hJ := Lib.hid hh.st
    clear hh
    go_simp
    refine (P12.out A9 c9 A8 c8 w1 hJ.out.2 hr8).mono ?_
    rintro e w9 ⟨rfl, hb9⟩
    exact ⟨_, rfl, hb9, rfl, JR.below hJ.out hb9⟩
  · refine regs.StepOK.plain rfl fun L a w1 hh => ?_
    have h69 : a.tmps[69]?.getD undef = .bool true := by rw [← Array.getD_eq_getD_getElem?]; exact hh.dep 48 69 (by kernel_rfl) (by kernel_rfl)
    have h73 : a.tmps[73]?.getD undef = .bool true := by rw [← Array.getD_eq_getD_getElem?]; exact hh.dep 52 73 (by kernel_rfl) (by kernel_rfl)
    have hJ := Lib.hid hh.st
    clear hh
    go_simp
    exact ⟨_, rfl, regs.bl_refl _, rfl, hJ.out⟩
  · refine regs.StepOK.plain rfl fun L a w1 hh => ?_
    have h74 : a.tmps[74]?.getD undef = .bool true := by rw [← Array.getD_eq_getD_getElem?]; exact hh.dep 53 74 (by kernel_rfl) (by kernel_rfl)
    have hJ := Lib.hid hh.st
    clear hh
    go_simp
    exact ⟨_, rfl, regs.bl_refl _, rfl, hJ.out⟩
  · refine regs.StepOK.yes 54 true 75 rfl rfl (fun L a w1 hh => hh.dep 54 75 (by kernel_rfl) (by kernel_rfl)) fun L a w1 hh => ?_
    have h5 : a.tmps[5]?.getD undef = .pointer (some ⟨g5, 0, none⟩) := by rw [← Array.getD_eq_getD_getElem?]; exact hh.old 5 rfl
    have hJ := Lib.hid hh.st
    exact wp_take 34 _ rfl g5 0 (hh.old 5 rfl) _ (show Blk w1 g5 [.int .i64 65536, .int .i64 0, .int .i64 0, .int .i64 65536, .int .i64 0, .int .i64 0, .int .i64 255, .bool false, .bool false, .int .i64 0, .int .i64 0, .int .i64 0, .int .i64 0, .int .i64 2, .int .i64 0, .int .i64 0, .int .u32 0, .int .i64 1, .int .i64 1, .slice A9 1 c9] from hJ.out.1.2.1) [.int .i64 65536, .int .i64 0, .int .i64 0, .int .i64 65536, .int .i64 0, .int .i64 0, .int .i64 255, .bool false, .bool false, .int .i64 0, .int .i64 0, .int .i64 0, .int .i64 0, .int .i64 2, .int .i64 0, .int .i64 0, .int .u32 0, .int .i64 1, .int .i64 1, .slice A9 1 c9] rfl _ Try.underlying34 rfl (by kernel_rfl) ⟨_, rfl, regs.bl_refl _, rfl, hJ.out⟩
  · refine regs.StepOK.yes 54 true 75 rfl rfl (fun L a w1 hh => hh.dep 54 75 (by kernel_rfl) (by kernel_rfl)) fun L a w1 hh => ?_
    have h1 : a.tmps[1]?.getD undef = .pointer (some ⟨g1, 0, none⟩) := by rw [← Array.getD_eq_getD_getElem?]; exact hh.old 1 rfl
    have hJ := Lib.hid hh.st
    exact wp_take 34 _ rfl g1 0 (hh.old 1 rfl) _ (show Blk w1 g1 [.int .i64 65536, .int .i64 0, .int .i64 0, .int .i64 65536, .int .i64 0, .int .i64 0, .int .i64 255, .bool false, .bool false, .int .i64 0, .int .i64 0, .int .i64 0, .int .i64 0, .int .i64 0, .int .i64 0, .int .i64 0, .int .u32 0, .int .i64 0, .int .i64 0, .slice none 0 0] from hJ.out.1.2.2.2.1) [.int .i64 65536, .int .i64 0, .int .i64 0, .int .i64 65536, .int .i64 0, .int .i64 0, .int .i64 255, .bool false, .bool false, .int .i64 0, .int .i64 0, .int .i64 0, .int .i64 0, .int .i64 0, .int .i64 0, .int .i64 0, .int .u32 0, .int .i64 0, .int .i64 0, .slice none 0 0] rfl _ Try.underlying34 rfl (by kernel_rfl) ⟨_, rfl, regs.bl_refl _, rfl, hJ.out⟩
  · refine regs.StepOK.yes 54 true 75 rfl rfl (fun L a w1 hh => hh.dep 54 75 (by kernel_rfl) (by kernel_rfl)) fun L a w1 hh => ?_
    have h76 : a.tmps[76]?.getD undef = .agg #[.int .i64 65536, .int .i64 0, .int .i64 0, .int .i64 65536, .int .i64 0, .int .i64 0, .int .i64 255, .bool false, .bool false, .int .i64 0, .int .i64 0, .int .i64 0, .int .i64 0, .int .i64 2, .int .i64 0, .int .i64 0, .int .u32 0, .int .i64 1, .int .i64 1, .slice A9 1 c9] := by rw [← Array.getD_eq_getD_getElem?]; exact hh.dep 55 76 (by kernel_rfl) (by kernel_rfl)
    have h77 : a.tmps[77]?.getD undef = .agg #[.int .i64 65536, .int .i64 0, .int .i64 0, .int .i64 65536, .int .i64 0, .int .i64 0, .int .i64 255, .bool false, .bool false, .int .i64 0, .int .i64 0, .int .i64 0, .int .i64 0, .int .i64 0, .int .i64 0, .int .i64 0, .int .u32 0, .int .i64 0, .int .i64 0, .slice none 0 0] := by rw [← Array.getD_eq_getD_getElem?]; exact hh.dep 56 77 (by kernel_rfl) (by kernel_rfl)
    have := True.intro
    have hJ := Lib.hid hh.st
    clear hh
    go_simp
    refine (P13.out A9 c9 w1 hJ.out.2).mono ?_
    rintro e w9 ⟨rfl, hb9⟩
    exact ⟨_, rfl, hb9, rfl, JR.below hJ.out hb9⟩
  · refine regs.StepOK.yes 54 true 75 rfl rfl (fun L a w1 hh => hh.dep 54 75 (by kernel_rfl) (by kernel_rfl)) fun L a w1 hh => ?_
    have h78 : a.tmps[78]?.getD undef = .bool false := by rw [← Array.getD_eq_getD_getElem?]; exact hh.dep 57 78 (by kernel_rfl) (by kernel_rfl)
    have hJ := Lib.hid hh.st
    clear hh
    go_simp
    exact ⟨_, rfl, regs.bl_refl _, rfl, hJ.out⟩
  · refine regs.StepOK.plain rfl fun L a w1 hh => ?_
    have h75 : a.tmps[75]?.getD undef = .bool true := by rw [← Array.getD_eq_getD_getElem?]; exact hh.dep 54 75 (by kernel_rfl) (by kernel_rfl)
    have h79 : a.tmps[79]?.getD undef = .bool true := by rw [← Array.getD_eq_getD_getElem?]; exact hh.dep 58 79 (by kernel_rfl) (by kernel_rfl)
    have hJ := Lib.hid hh.st
    clear hh
    go_simp
    exact ⟨_, rfl, regs.bl_refl _, rfl, hJ.out⟩
  · refine regs.StepOK.plain rfl fun L a w1 hh => ?_
    have h80 : a.tmps[80]?.getD undef = .bool true := by rw [← Array.getD_eq_getD_getElem?]; exact hh.dep 59 80 (by kernel_rfl) (by kernel_rfl)
    have hJ := Lib.hid hh.st
    clear hh
    go_simp
    exact ⟨_, rfl, regs.bl_refl _, rfl, hJ.out⟩
  · refine regs.StepOK.yes 60 true 81 rfl rfl (fun L a w1 hh => hh.dep 60 81 (by kernel_rfl) (by kernel_rfl)) fun L a w1 hh => ?_
    have hJ := Lib.hid hh.st
    clear hh
    go_simp
    exact ⟨_, rfl, regs.bl_refl _, rfl, hJ.out⟩
  · refine regs.StepOK.yes 60 true 81 rfl rfl (fun L a w1 hh => hh.dep 60 81 (by kernel_rfl) (by kernel_rfl)) fun L a w1 hh => ?_
    have h82 : a.tmps[82]?.getD undef = .agg #[.int .i64 0, .int .i64 1, .int .i64 0, .int .u32 0, .int .i64 0, .int .i64 0, .slice none 0 0] := by rw [← Array.getD_eq_getD_getElem?]; exact hh.dep 61 82 (by kernel_rfl) (by kernel_rfl)
    have := True.intro
    have hJ := Lib.hid hh.st
    clear hh
    go_simp
    refine (P14.out w1).mono ?_
    rintro e w9 ⟨rfl, hb9⟩
    exact ⟨_, rfl, hb9, rfl, JR.below hJ.out hb9⟩
  · refine regs.StepOK.yes 60 true 81 rfl rfl (fun L a w1 hh => hh.dep 60 81 (by kernel_rfl) (by kernel_rfl)) fun L a w1 hh => ?_
    have h83 : a.tmps[83]?.getD undef = .int .i64 10 := by rw [← Array.getD_eq_getD_getElem?]; exact hh.dep 62 83 (by kernel_rfl) (by kernel_rfl)
    have hJ := Lib.hid hh.st
    clear hh
    go_simp
    exact ⟨_, rfl, regs.bl_refl _, rfl, hJ.out⟩
  · refine regs.StepOK.plain rfl fun L a w1 hh => ?_
    have h81 : a.tmps[81]?.getD undef = .bool true := by rw [← Array.getD_eq_getD_getElem?]; exact hh.dep 60 81 (by kernel_rfl) (by kernel_rfl)
    have h84 : a.tmps[84]?.getD undef = .bool true := by rw [← Array.getD_eq_getD_getElem?]; exact hh.dep 63 84 (by kernel_rfl) (by kernel_rfl)
    have hJ := Lib.hid hh.st
    clear hh
    go_simp
    exact ⟨_, rfl, regs.bl_refl _, rfl, hJ.out⟩
  · refine regs.StepOK.plain rfl fun L a w1 hh => ?_
    have h85 : a.tmps[85]?.getD undef = .bool true := by rw [← Array.getD_eq_getD_getElem?]; exact hh.dep 64 85 (by kernel_rfl) (by kernel_rfl)
    have hJ := Lib.hid hh.st
    clear hh
    go_simp
    exact ⟨_, rfl, regs.bl_refl _, rfl, hJ.out⟩
  intro L w11 val hL hJ hR hv
  have h0 : val 0 = .bool true := hv 65 0 (by kernel_rfl)
  have HK11 := Lib.hid hJ
  have HR11 := Lib.hid hR
  clear hv hL hJ hR
  simp only [regs.putAll, List.map_cons, List.map_nil]
  rw [h0]
  generalize val 21 = v21
  generalize val 22 = v22
  generalize val 23 = v23
  generalize val 24 = v24
  generalize val 25 = v25
  generalize val 26 = v26
  generalize val 27 = v27
  generalize val 28 = v28
  generalize val 29 = v29
  generalize val 30 = v30
  generalize val 31 = v31
  generalize val 32 = v32
  generalize val 33 = v33
  generalize val 34 = v34
  generalize val 35 = v35
  generalize val 36 = v36
  generalize val 37 = v37
  generalize val 38 = v38
  generalize val 39 = v39
  generalize val 40 = v40
  generalize val 41 = v41
  generalize val 42 = v42
  generalize val 43 = v43
  generalize val 44 = v44
  generalize val 45 = v45
  generalize val 46 = v46
  generalize val 47 = v47
  generalize val 48 = v48
  generalize val 49 = v49
  generalize val 50 = v50
  generalize val 51 = v51
  generalize val 52 = v52
  generalize val 53 = v53
  generalize val 54 = v54
  generalize val 55 = v55
  generalize val 56 = v56
  generalize val 57 = v57
  generalize val 58 = v58
  generalize val 59 = v59
  generalize val 60 = v60
  generalize val 61 = v61
  generalize val 62 = v62
  generalize val 63 = v63
  generalize val 64 = v64
  generalize val 65 = v65
  generalize val 66 = v66
  generalize val 67 = v67
  generalize val 68 = v68
  generalize val 69 = v69
  generalize val 70 = v70
  generalize val 71 = v71
  generalize val 72 = v72
  generalize val 73 = v73
  generalize val 74 = v74
  generalize val 75 = v75
  generalize val 76 = v76
  generalize val 77 = v77
  generalize val 78 = v78
  generalize val 79 = v79
  generalize val 80 = v80
  generalize val 81 = v81
  generalize val 82 = v82
  generalize val 83 = v83
  generalize val 84 = v84
  generalize val 85 = v85
  simp only [Act.put, List.setIfInBounds_toArray, List.set_cons_zero, List.set_cons_succ]
  clear h0
  have HB11 : Hid (Below w.heap.size w w11) := HB10.out.trans (HR11.out.mono HB10.out.size)
  go_wp2_with (fail)
  go_ret
  exact ⟨rfl, HB11.out⟩
end Go.Proofs.Ytfmlecjobpdbbaa
