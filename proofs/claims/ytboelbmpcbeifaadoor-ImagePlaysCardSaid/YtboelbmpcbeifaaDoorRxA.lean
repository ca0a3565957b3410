/-
  Layer 6: rectangles: plain; the contracts of Empty, normal, Of, Has.
-/
import Derived.Test.YtboelbmpcbeifaaDoorKit
import Derived.Deep.QuietTactic
import Derived.BigQuiet
import Derived.Laws.Small
namespace Go.Proofs.YtboelbmpcbeifaaDoor
open Go.RowKit

structure Bx where
  a : Int
  b : Int
  c : Int
  d : Int
deriving DecidableEq
def Bx.v (r : Bx) : Value := .agg #[.int .i64 r.a, .int .i64 r.b, .int .i64 r.c, .int .i64 r.d]
def Bx.cs (r : Bx) : List Value := [.int .i64 r.a, .int .i64 r.b, .int .i64 r.c, .int .i64 r.d]
def Bx.o : Bx := ⟨0, 0, 0, 0⟩
def Bx.emp (r : Bx) : Bool := decide (r.c ≤ r.a) || decide (r.d ≤ r.b)
def Bx.nrm (r : Bx) : Bx := if r.emp = true then Bx.o else r
def Bx.has (r : Bx) (x y : Int) : Bool := decide (r.a ≤ x) && (decide (x < r.c) && (decide (r.b ≤ y) && decide (y < r.d)))

theorem bx_empty (r : Bx) (w : World) : Calls Tryd.prog 47 #[r.v] w fun e w' => e = .returned (.bool r.emp) ∧ Below w.heap.size w w' := by
  obtain ⟨a, b, c, d⟩ := r
  unfold Bx.v Bx.emp
  simp only
  by_cases h : c ≤ a
  · have t : decide (c ≤ a) = true := by simpa using h
    rw [t]
    go_enter Tryd.func47, Tryd.ntmps47
    go_wp2_with (fail)
    go_ret
    exact ⟨rfl, (Below.refl _ _).alloc (Nat.le_refl _) _⟩
  · have t : decide (c ≤ a) = false := by simpa using h
    rw [t]
    clear h
    by_cases h : d ≤ b
    · have t2 : decide (d ≤ b) = true := by simpa using h
      rw [t2]
      go_enter Tryd.func47, Tryd.ntmps47
      go_wp2_with (fail)
      go_ret
      exact ⟨rfl, (Below.refl _ _).alloc (Nat.le_refl _) _⟩
    · have t2 : decide (d ≤ b) = false := by simpa using h
      rw [t2]
      clear h
      go_enter Tryd.func47, Tryd.ntmps47
      go_wp2_with (fail)
      go_ret
      exact ⟨rfl, (Below.refl _ _).alloc (Nat.le_refl _) _⟩
theorem bx_normal (r : Bx) (w : World) : Calls Tryd.prog 39 #[r.v] w fun e w' => e = .returned r.nrm.v ∧ Below w.heap.size w w' := by
  have HE := Lib.hid (fun w => bx_empty r w)
  have HN : Hid (r.nrm = if r.emp = true then Bx.o else r) := rfl
  generalize r.emp = y at *
  obtain ⟨⟨na, nb, nc, nd⟩, hn⟩ : ∃ n, r.nrm = n := ⟨_, rfl⟩
  rw [hn] at HN
  rw [hn]
  clear hn
  obtain ⟨a, b, c, d⟩ := r
  unfold Bx.v at *
  simp only at HE ⊢
  go_enter Tryd.func39, Tryd.ntmps39
  go_wp2_with (fail)
  refine (HE.out _).mono ?_
  rintro e w' ⟨rfl, hb⟩
  have hB : Hid (Below w.heap.size w w') := (((Below.refl _ _).alloc (Nat.le_refl _) _).alloc (by simp) _).trans (hb.mono (by simp; try omega))
  have hR : Hid (Blk w' (w.heap.size + 1) [.int .i64 0, .int .i64 0, .int .i64 0, .int .i64 0]) := (blk_at (w.alloc _) _ (by simp) [.int .i64 0, .int .i64 0, .int .i64 0, .int .i64 0] _).below hb (by simp)
  have hA : Hid (Blk w' w.heap.size [.int .i64 a, .int .i64 b, .int .i64 c, .int .i64 d]) := ((blk_new w [.int .i64 a, .int .i64 b, .int .i64 c, .int .i64 d] _).alloc _).below hb (by simp; omega)
  clear hb
  obtain ⟨⟨c0, c1, c2, c3⟩, ⟨f0, f1, f2, f3⟩, -⟩ := hR.out.c4
  obtain ⟨⟨d0, d1, d2, d3⟩, -, -⟩ := hA.out.c4
  cases y with
  | true =>
    rw [if_pos rfl] at HN
    go_wp2_with (fail)
    exact blk_ret rfl rfl (hR.out.put4 _ _ _ _) Tryd.underlying30 rfl (by kernel_rfl) ⟨by injection HN.out with h0 h1 h2 h3; rw [h0, h1, h2, h3], below4 hB.out (by omega) _ _ _ _⟩
  | false =>
    rw [if_neg (by decide)] at HN
    go_wp2_with (fail)
    exact blk_ret rfl rfl (hR.out.put4 _ _ _ _) Tryd.underlying30 rfl (by kernel_rfl) ⟨by injection HN.out with h0 h1 h2 h3; rw [h0, h1, h2, h3], below4 hB.out (by omega) _ _ _ _⟩
theorem bx_of (r : Bx) (w : World) : Calls Tryd.prog 24 #[.int .i64 r.a, .int .i64 r.b, .int .i64 r.c, .int .i64 r.d] w fun e w' => e = .returned r.nrm.v ∧ Below w.heap.size w w' := by
  have HE := Lib.hid (fun w => bx_normal r w)
  generalize r.nrm = n at *
  obtain ⟨na, nb, nc, nd⟩ := n
  obtain ⟨a, b, c, d⟩ := r
  unfold Bx.v at *
  simp only at HE ⊢
  go_enter Tryd.func24, Tryd.ntmps24
  go_wp2_with (fail)
  refine (HE.out _).mono ?_
  rintro e w' ⟨rfl, hb⟩
  have hB : Hid (Below w.heap.size w w') := ((Below.refl _ _).alloc (Nat.le_refl _) _).trans (hb.mono (by simp; try omega))
  have hR : Hid (Blk w' w.heap.size [.int .i64 0, .int .i64 0, .int .i64 0, .int .i64 0]) := (blk_at w _ rfl [.int .i64 0, .int .i64 0, .int .i64 0, .int .i64 0] _).below hb (by simp)
  clear hb
  obtain ⟨⟨c0, c1, c2, c3⟩, ⟨f0, f1, f2, f3⟩, -⟩ := hR.out.c4
  go_wp2_with (fail)
  exact blk_ret rfl rfl (hR.out.put4 _ _ _ _) Tryd.underlying30 rfl (by kernel_rfl) ⟨rfl, below4 hB.out (by omega) _ _ _ _⟩
theorem ret_b {a b : Bool} (h : a = b) : Ending.returned (.bool a) = .returned (.bool b) := by rw [h]
theorem bx_has (r : Bx) (x y : Int) (w : World) : Calls Tryd.prog 41 #[r.v, .int .i64 x, .int .i64 y] w fun e w' => e = .returned (.bool (r.has x y)) ∧ Below w.heap.size w w' := by
  obtain ⟨a, b, c, d⟩ := r
  unfold Bx.v Bx.has
  simp only
  generalize h1 : decide (a ≤ x) = t1
  generalize h2 : decide (x < c) = t2
  generalize h3 : decide (b ≤ y) = t3
  generalize h4 : decide (y < d) = t4
  cases t1 <;> cases t2 <;> cases t3 <;> cases t4
  all_goals
    go_enter Tryd.func41, Tryd.ntmps41
    go_wp2_with (fail)
    go_ret
    exact ⟨rfl, (Below.refl _ _).alloc (Nat.le_refl _) _⟩
theorem bx_eq (r s : Bx) (w : World) : (binOp .eql 30 r.v s.v).run Tryd.prog w = .ok (.bool (decide (r = s))) w := by
  obtain ⟨a, b, c, d⟩ := r
  obtain ⟨a2, b2, c2, d2⟩ := s
  unfold Bx.v
  simp only
  by_cases h0 : a = a2
  · by_cases h1 : b = b2
    · by_cases h2 : c = c2
      · by_cases h3 : d = d2
        · subst h0; subst h1; subst h2; subst h3
          simp only [decide_true]
          go_simp
        · rw [decide_eq_false (by simp [h3])]
          subst h0; subst h1; subst h2
          have t : (d == d2) = false := by simpa using h3
          go_simp
      · rw [decide_eq_false (by simp [h2])]
        subst h0; subst h1
        have t : (c == c2) = false := by simpa using h2
        go_simp
    · rw [decide_eq_false (by simp [h1])]
      subst h0
      have t : (b == b2) = false := by simpa using h1
      go_simp
  · rw [decide_eq_false (by simp [h0])]
    have t : (a == a2) = false := by simpa using h0
    go_simp
theorem bx_neq (r s : Bx) (w : World) : (binOp .neq 30 r.v s.v).run Tryd.prog w = .ok (.bool (!decide (r = s))) w := by
  obtain ⟨a, b, c, d⟩ := r
  obtain ⟨a2, b2, c2, d2⟩ := s
  unfold Bx.v
  simp only
  by_cases h0 : a = a2
  · by_cases h1 : b = b2
    · by_cases h2 : c = c2
      · by_cases h3 : d = d2
        · subst h0; subst h1; subst h2; subst h3
          simp only [decide_true]
          go_simp
        · rw [decide_eq_false (by simp [h3])]
          subst h0; subst h1; subst h2
          have t : (d == d2) = false := by simpa using h3
          go_simp
      · rw [decide_eq_false (by simp [h2])]
        subst h0; subst h1
        have t : (c == c2) = false := by simpa using h2
        go_simp
    · rw [decide_eq_false (by simp [h1])]
      subst h0
      have t : (b == b2) = false := by simpa using h1
      go_simp
  · rw [decide_eq_false (by simp [h0])]
    have t : (a == a2) = false := by simpa using h0
    go_simp
end Go.Proofs.YtboelbmpcbeifaaDoor
