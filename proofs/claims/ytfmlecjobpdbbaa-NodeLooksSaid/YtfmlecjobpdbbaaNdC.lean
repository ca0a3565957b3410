/-
  Layer 11: looks: what is set, Check.
-/
import Derived.Test.YtfmlecjobpdbbaaNdB
namespace Go.Proofs.Ytfmlecjobpdbbaa
open Go.RowKit pxm imm

/-- a look's value -/
def lkV (k W H : Int) (p : Nat) (iw ih : Int) (A : Option Addr) (n c : Nat) : Value := .agg #[.int .i64 k, .int .i64 W, .int .i64 H, .int .u32 (p : Nat), .int .i64 iw, .int .i64 ih, .slice A n c]
theorem blk7 (w : World) (k W H : Int) (p : Nat) (iw ih : Int) (A : Option Addr) (n c : Nat) (T : TypeId) : Blk (w.alloc (.cells #[.int .i64 k, .int .i64 W, .int .i64 H, .int .u32 (p : Nat), .int .i64 iw, .int .i64 ih, .slice A n c] T)) w.heap.size [.int .i64 k, .int .i64 W, .int .i64 H, .int .u32 (p : Nat), .int .i64 iw, .int .i64 ih, .slice A n c] :=
  blk_new w [.int .i64 k, .int .i64 W, .int .i64 H, .int .u32 (p : Nat), .int .i64 iw, .int .i64 ih, .slice A n c] T
theorem Blk.c7 {w : World} {g : Nat} {a b c d e f h : Value} (hB : Blk w g [a, b, c, d, e, f, h]) : (w.cell? ⟨g, 0, none⟩ = some a ∧ w.cell? ⟨g, 1, none⟩ = some b ∧ w.cell? ⟨g, 2, none⟩ = some c ∧ w.cell? ⟨g, 3, none⟩ = some d ∧ w.cell? ⟨g, 4, none⟩ = some e ∧ w.cell? ⟨g, 5, none⟩ = some f ∧ w.cell? ⟨g, 6, none⟩ = some h) ∧
    (w.frozen? ⟨g, 0, none⟩ = false ∧ w.frozen? ⟨g, 1, none⟩ = false ∧ w.frozen? ⟨g, 2, none⟩ = false ∧ w.frozen? ⟨g, 3, none⟩ = false ∧ w.frozen? ⟨g, 4, none⟩ = false ∧ w.frozen? ⟨g, 5, none⟩ = false ∧ w.frozen? ⟨g, 6, none⟩ = false) ∧ g < w.heap.size :=
  ⟨⟨hB.cell 0, hB.cell 1, hB.cell 2, hB.cell 3, hB.cell 4, hB.cell 5, hB.cell 6⟩, ⟨hB.free 0, hB.free 1, hB.free 2, hB.free 3, hB.free 4, hB.free 5, hB.free 6⟩, hB.inside⟩
def fmC (b : Bool) : Int := if b = true then 0 else 10
theorem formed_any (b : Bool) (w : World) : Calls Try.prog 26 #[.bool b] w fun e w' => e = .returned (.int .i64 (fmC b)) ∧ Below w.heap.size w w' := by
  cases b
  all_goals
    go_enter Try.func26, Try.ntmps26
    go_wp2_with (fail)
    go_ret
    exact ⟨rfl, Below.refl _ _⟩
def hasF (W H : Int) (p : Nat) : Bool := decide (¬ (W = 0 ∧ H = 0 ∧ p = 0))
set_option maxHeartbeats 1000000 in
theorem hasFill_any (k W H : Int) (p : Nat) (iw ih : Int) (A : Option Addr) (n c : Nat) (w : World) : Calls Try.prog 27 #[lkV k W H p iw ih A n c] w fun e w' => e = .returned (.bool (hasF W H p)) ∧ Below w.heap.size w w' := by
  obtain ⟨R, hR⟩ : ∃ R, hasF W H p = R := ⟨_, rfl⟩
  rw [hR]
  have HR := Lib.hid hR
  clear hR
  unfold lkV
  by_cases t1 : W = 0
  · have q1 : (W != 0) = false := by simp; omega
    by_cases t2 : H = 0
    · have q2 : (H != 0) = false := by simp; omega
      have HF : Hid (R = ((p : Int) != 0)) := by
        show R = _
        rw [← HR.out, Bool.eq_iff_iff]
        unfold hasF
        simp [t1, t2]
        try omega
      generalize hq : ((p : Int) != 0) = y at HF
      obtain rfl := HF.out
      clear t1 t2 HR HF
      go_enter Try.func27, Try.ntmps27
      go_wp2_with (fail)
      go_ret
      exact ⟨rfl, (Below.refl _ _).alloc (Nat.le_refl _) _⟩
    · have q2 : (H != 0) = true := by simp; omega
      obtain rfl : R = true := by rw [← HR.out]; exact decide_eq_true (fun h => t2 h.2.1)
      clear t1 t2 HR
      go_enter Try.func27, Try.ntmps27
      go_wp2_with (fail)
      go_ret
      exact ⟨rfl, (Below.refl _ _).alloc (Nat.le_refl _) _⟩
  · have q1 : (W != 0) = true := by simp; omega
    obtain rfl : R = true := by rw [← HR.out]; exact decide_eq_true (fun h => t1 h.1)
    clear t1 HR
    go_enter Try.func27, Try.ntmps27
    go_wp2_with (fail)
    go_ret
    exact ⟨rfl, (Below.refl _ _).alloc (Nat.le_refl _) _⟩
def hasI (iw ih : Int) (l : List Nat) : Bool := !eqB iw ih l 0 0 []
set_option maxHeartbeats 1000000 in
theorem hasImage_any (k W H : Int) (p : Nat) (iw ih : Int) (A : Option Addr) (l : List Nat) (c : Nat) (hn : l.length ≤ maxLen) (w : World) (hr : Row eW w A l) : Calls Try.prog 28 #[lkV k W H p iw ih A l.length c] w fun e w' => e = .returned (.bool (hasI iw ih l)) ∧ Below w.heap.size w w' := by
  have HE := Lib.hid (fun w h1 => equal_any iw ih A l c 0 0 none [] 0 w h1 (Row.none_ rfl) hn (by simp))
  have HR := Lib.hid hr
  have HI : Hid (hasI iw ih l = !eqB iw ih l 0 0 []) := rfl
  clear hr hn
  generalize eqB iw ih l 0 0 [] = y at *
  generalize hasI iw ih l = R at *
  unfold imV at HE
  simp only [List.length_nil] at HE
  unfold lkV
  go_enter Try.func28, Try.ntmps28
  go_wp2_with (fail)
  have HB : Hid (Below w.heap.size w (w.alloc (.cells #[.int .i64 k, .int .i64 W, .int .i64 H, .int .u32 (p : Nat), .int .i64 iw, .int .i64 ih, .slice A l.length c] 32))) := (Below.refl _ _).alloc (Nat.le_refl _) _
  refine (HE.out _ (HR.out.below HB.out)).mono ?_
  rintro e w1 ⟨rfl, hb⟩
  have HB2 : Hid (Below w.heap.size w w1) := HB.out.trans (hb.mono HB.out.size)
  clear hb HE HB
  go_wp2_with (fail)
  go_ret
  exact ⟨ret_bool HI.out.symm, HB2.out⟩
end Go.Proofs.Ytfmlecjobpdbbaa
