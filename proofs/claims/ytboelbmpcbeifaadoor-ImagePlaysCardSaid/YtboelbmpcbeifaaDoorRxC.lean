/-
  Layer 6: Within, Area, Grow, about, Less.
-/
import Derived.Test.YtboelbmpcbeifaaDoorRxB
namespace Go.Proofs.YtboelbmpcbeifaaDoor
open Go.RowKit

def Bx.within (r s : Bx) : Bool := decide (r.cut [s] = r.nrm)
theorem bcs_len (x : Bx) : (Bx.cs x).length = 4 := rfl
theorem brow_new (w : World) (l : List Bx) {g : Nat} (hg : g = w.heap.size) : BRow (w.alloc (.cells (l.flatMap Bx.cs).toArray 30)) (some ⟨g, 0, none⟩) l := srow_new (enc := Bx.cs) bcs_len w l _ hg
/-- it is a slice of these -/
def sayB (l : List Bx) : regs.Say regs.bl := ⟨fun v w => ∃ A c, v = .slice A l.length c ∧ BRow w A l ∧ l.length ≤ c ∧ c ≤ maxLen, fun _ _ _ ⟨A, c, h, hr, hc⟩ hb => ⟨A, c, h, hr.below hb, hc⟩⟩
def J2 (g0 g1 : Nat) (p q : List Value) (w : World) : Prop := Blk w g0 p ∧ Blk w g1 q
theorem J2.below {g0 g1 : Nat} {p q : List Value} {w w' : World} (h : J2 g0 g1 p q w) (hb : Below w.heap.size w w') : J2 g0 g1 p q w' := ⟨h.1.below' hb, h.2.below' hb⟩
theorem ml : (9223372036854775807 : Nat) = 9223372036854775807 := rfl
theorem le_ml {n c : Nat} (h : n ≤ c) (hm : c ≤ maxLen) : n ≤ 9223372036854775807 := by unfold maxLen at hm; omega
/-! ### Area -/
/-- numbers of which something is promised -/
def Bx.rt (r : Bx) : Bool := decide ((-1073741824 ≤ r.a ∧ r.a ≤ 1073741824) ∧ (-1073741824 ≤ r.b ∧ r.b ≤ 1073741824) ∧ (-1073741824 ≤ r.c ∧ r.c ≤ 1073741824) ∧ (-1073741824 ≤ r.d ∧ r.d ≤ 1073741824))
theorem Bx.rt_of {r : Bx} (h : r.rt = true) : (-1073741824 ≤ r.a ∧ r.a ≤ 1073741824) ∧ (-1073741824 ≤ r.b ∧ r.b ≤ 1073741824) ∧ (-1073741824 ≤ r.c ∧ r.c ≤ 1073741824) ∧ (-1073741824 ≤ r.d ∧ r.d ≤ 1073741824) := of_decide_eq_true h
theorem Bx.emp_no {r : Bx} (h : r.emp = false) : r.a < r.c ∧ r.b < r.d := by
  unfold Bx.emp at h
  rw [Bool.or_eq_false_iff, decide_eq_false_iff_not, decide_eq_false_iff_not] at h
  omega
theorem Bx.emp_yes {r : Bx} (h : r.emp = true) : r.c ≤ r.a ∨ r.d ≤ r.b := by
  unfold Bx.emp at h
  rw [Bool.or_eq_true, decide_eq_true_eq, decide_eq_true_eq] at h
  exact h
theorem Bx.nrm_cases (r : Bx) : (r.emp = true ∧ r.nrm = Bx.o) ∨ (r.emp = false ∧ r.nrm = r) := by
  cases h : r.emp with
  | true => exact .inl ⟨rfl, by unfold Bx.nrm; rw [if_pos h]⟩
  | false => exact .inr ⟨rfl, by unfold Bx.nrm; rw [if_neg (by rw [h]; decide)]⟩
def Bx.area (r : Bx) : Int := (r.nrm.c - r.nrm.a) * (r.nrm.d - r.nrm.b)
theorem Bx.sides {r : Bx} (h : r.rt = true) : (0 ≤ r.nrm.c - r.nrm.a ∧ r.nrm.c - r.nrm.a ≤ 2147483648) ∧ (0 ≤ r.nrm.d - r.nrm.b ∧ r.nrm.d - r.nrm.b ≤ 2147483648) := by
  obtain ⟨⟨a1, a2⟩, ⟨b1, b2⟩, ⟨c1, c2⟩, d1, d2⟩ := Bx.rt_of h
  rcases r.nrm_cases with ⟨_, e⟩ | ⟨h2, e⟩
  · rw [e]; decide
  · rw [e]
    have := Bx.emp_no h2
    omega
theorem mul_bd {x y : Int} (h1 : 0 ≤ x) (h2 : x ≤ 2147483648) (h3 : 0 ≤ y) (h4 : y ≤ 2147483648) : 0 ≤ x * y ∧ x * y ≤ 4611686018427387904 := by
  have g1 : 0 ≤ x * y := Int.mul_nonneg h1 h3
  have g2 : 0 ≤ (2147483648 - x) * y := Int.mul_nonneg (by omega) h3
  rw [Int.sub_mul] at g2
  omega
set_option maxHeartbeats 1000000 in
theorem bx_area (r : Bx) (w : World) (h : r.rt = true) : Calls Tryd.prog 33 #[r.v] w fun e w' => e = .returned (.int .i64 r.area) ∧ Below w.heap.size w w' := by
  obtain ⟨⟨s1, s2⟩, s3, s4⟩ := Bx.sides h
  have HE := Lib.hid (fun w => bx_normal r w)
  obtain ⟨m1, m2⟩ := mul_bd s1 s2 s3 s4
  have HA : Hid (r.area = (r.nrm.c - r.nrm.a) * (r.nrm.d - r.nrm.b)) := rfl
  rw [HA.out]
  clear HA h
  generalize r.nrm = n at *
  obtain ⟨na, nb, nc, nd⟩ := n
  obtain ⟨ra, rb, rc, rd⟩ := r
  unfold Bx.v at HE ⊢
  simp only at HE s1 s2 s3 s4 m1 m2 ⊢
  have q1 : wrap64 (nc - na) = nc - na := IntWalk.wrap64_in _ (by omega)
  have q2 : wrap64 (nd - nb) = nd - nb := IntWalk.wrap64_in _ (by omega)
  have q3 : wrap64 ((nc - na) * (nd - nb)) = (nc - na) * (nd - nb) := IntWalk.wrap64_in _ (by omega)
  clear s1 s2 s3 s4 m1 m2
  go_enter Tryd.func33, Tryd.ntmps33
  go_wp2_with (fail)
  refine (HE.out _).mono ?_
  rintro e w' ⟨rfl, hb⟩
  have hB : Hid (Below w.heap.size w w') := ((Below.refl _ _).alloc (Nat.le_refl _) _).trans (hb.mono (by simp; try omega))
  have hR : Hid (Blk w' w.heap.size [.int .i64 ra, .int .i64 rb, .int .i64 rc, .int .i64 rd]) := (blk_at w _ rfl [.int .i64 ra, .int .i64 rb, .int .i64 rc, .int .i64 rd] _).below hb (by simp)
  clear hb
  obtain ⟨⟨c0, c1, c2, c3⟩, ⟨f0, f1, f2, f3⟩, hin⟩ := hR.out.c4
  go_wp2_with (fail)
  go_ret
  exact ⟨ret_num q3, below4 hB.out (Nat.le_refl _) _ _ _ _⟩
/-! ### Grow -/
def Bx.grow (r : Bx) (n : Int) : Bx := if r.emp = true then Bx.o else Bx.nrm ⟨r.a - n, r.b - n, r.c + n, r.d + n⟩
def Bx.wide (r : Bx) : Bool := decide ((-1099511627776 ≤ r.a ∧ r.a ≤ 1099511627776) ∧ (-1099511627776 ≤ r.b ∧ r.b ≤ 1099511627776) ∧ (-1099511627776 ≤ r.c ∧ r.c ≤ 1099511627776) ∧ (-1099511627776 ≤ r.d ∧ r.d ≤ 1099511627776))
end Go.Proofs.YtboelbmpcbeifaaDoor
