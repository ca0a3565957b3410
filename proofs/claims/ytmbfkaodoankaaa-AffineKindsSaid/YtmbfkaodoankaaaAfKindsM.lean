/-
  Layer 8: plain facts of shifts, scales and turns.
-/
import Derived.Test.YtmbfkaodoankaaaAfJ
namespace Go.Proofs.Ytmbfkaodoankaaa
open Go.RowKit

theorem rnd_whole (z : Int) : rnd (z * 65536) 65536 = z := by
  have g := Int.mul_emod_left z 65536
  have g2 := Int.mul_ediv_cancel z (show (65536 : Int) ≠ 0 by decide)
  unfold rnd
  rw [if_neg (by omega), g2]
def ptR (p : Pt) : Prop := (-1073741824 ≤ p.x ∧ p.x ≤ 1073741824) ∧ (-1073741824 ≤ p.y ∧ p.y ≤ 1073741824)
theorem rightB_1 : rightB 65536 = true := rightB_yes (by decide) (by decide)
theorem rightB_m1 : rightB (-65536) = true := rightB_yes (by decide) (by decide)
theorem dot5_of {a b c d e z : Int} (ha : rightB a = true) (hb : rightB b = true) (hc : rightB c = true) (hd : rightB d = true) (he : rightB e = true) (hz : rnd (dots [a, b, c, d, e]) 65536 = z) :
    dotB [a, b, c, d, e] = rightB z ∧ dotV [a, b, c, d, e] = if rightB z = true then z else 0 := by
  have hr : allR [a, b, c, d, e] = true := by simp [allR, ha, hb, hc, hd, he]
  unfold dotB dotV
  rw [hz, hr]
  simp
theorem dots5 (a b c d e : Int) : dots [a, b, c, d, e] = a * b + (c * d + e * 65536) := rfl
theorem take_of {m : Mp} {p : Pt} {x y : Int} (hx : dotB (m.dx p) = rightB x ∧ dotV (m.dx p) = if rightB x = true then x else 0) (hy : dotB (m.dy p) = rightB y ∧ dotV (m.dy p) = if rightB y = true then y else 0) :
    m.takes p = (rightB x && rightB y) ∧ m.take p = if (rightB x && rightB y) = true then ⟨x, y⟩ else ⟨0, 0⟩ := by
  have h : m.takes p = (rightB x && rightB y) := by unfold Mp.takes; rw [hx.1, hy.1]
  refine ⟨h, ?_⟩
  unfold Mp.take
  rw [h]
  by_cases hb : (rightB x && rightB y) = true
  · rw [if_pos hb, if_pos hb]
    rw [Bool.and_eq_true] at hb
    rw [hx.2, hy.2, if_pos hb.1, if_pos hb.2]
  · rw [if_neg hb, if_neg hb]
section
variable {p : Pt} (hp : ptR p)
include hp
theorem shift_take {x y : Int} (hx : rightB x = true) (hy : rightB y = true) :
    Mp.takes ⟨65536, 0, 0, 65536, x, y⟩ p = (rightB (p.x + x) && rightB (p.y + y)) ∧ Mp.take ⟨65536, 0, 0, 65536, x, y⟩ p = if (rightB (p.x + x) && rightB (p.y + y)) = true then ⟨p.x + x, p.y + y⟩ else ⟨0, 0⟩ :=
  take_of (dot5_of rightB_1 (rightB_yes hp.1.1 hp.1.2) rightB_0 (rightB_yes hp.2.1 hp.2.2) hx (by rw [dots5, show 65536 * p.x + (0 * p.y + x * 65536) = (p.x + x) * 65536 by omega, rnd_whole]))
    (dot5_of rightB_0 (rightB_yes hp.1.1 hp.1.2) rightB_1 (rightB_yes hp.2.1 hp.2.2) hy (by rw [dots5, show 0 * p.x + (65536 * p.y + y * 65536) = (p.y + y) * 65536 by omega, rnd_whole]))
theorem scale_take {x y : Int} (hx : rightB x = true) (hy : rightB y = true) :
    Mp.takes ⟨x, 0, 0, y, 0, 0⟩ p = (rightB (rnd (x * p.x) 65536) && rightB (rnd (y * p.y) 65536)) ∧ Mp.take ⟨x, 0, 0, y, 0, 0⟩ p = if (rightB (rnd (x * p.x) 65536) && rightB (rnd (y * p.y) 65536)) = true then ⟨rnd (x * p.x) 65536, rnd (y * p.y) 65536⟩ else ⟨0, 0⟩ :=
  take_of (dot5_of hx (rightB_yes hp.1.1 hp.1.2) rightB_0 (rightB_yes hp.2.1 hp.2.2) rightB_0 (by rw [dots5, show x * p.x + (0 * p.y + 0 * 65536) = x * p.x by omega]))
    (dot5_of rightB_0 (rightB_yes hp.1.1 hp.1.2) hy (rightB_yes hp.2.1 hp.2.2) rightB_0 (by rw [dots5, show 0 * p.x + (y * p.y + 0 * 65536) = y * p.y by omega]))
end
def rot : Nat → Pt → Pt
  | 0, p => p
  | k + 1, p => ⟨-(rot k p).y, (rot k p).x⟩
theorem rot_R {p : Pt} (hp : ptR p) : ∀ k, ptR (rot k p)
  | 0 => hp
  | k + 1 => by
    have h := rot_R hp k
    unfold ptR at *
    show (-1073741824 ≤ -(rot k p).y ∧ -(rot k p).y ≤ 1073741824) ∧ (-1073741824 ≤ (rot k p).x ∧ (rot k p).x ≤ 1073741824)
    omega
theorem both_yes {x y : Int} {m : Mp} {p : Pt} (hx : -1073741824 ≤ x ∧ x ≤ 1073741824) (hy : -1073741824 ≤ y ∧ y ≤ 1073741824) (h : m.takes p = (rightB x && rightB y) ∧ m.take p = if (rightB x && rightB y) = true then ⟨x, y⟩ else ⟨0, 0⟩) : m.takes p = true ∧ m.take p = ⟨x, y⟩ := by
  rw [rightB_yes hx.1 hx.2, rightB_yes hy.1 hy.2] at h
  exact h
theorem one_take {p : Pt} (hp : ptR p) : Mp.one.takes p = true ∧ Mp.one.take p = p := by
  have h := shift_take hp (x := 0) (y := 0) rightB_0 rightB_0
  rw [Int.add_zero, Int.add_zero] at h
  exact both_yes hp.1 hp.2 h
theorem turn_take {p : Pt} (hp : ptR p) (q : Int) : (Mp.turn q).takes p = true ∧ (Mp.turn q).take p = rot (q % 4).toNat p := by
  have h4 : 0 ≤ q % 4 ∧ q % 4 < 4 := by omega
  unfold Mp.turn
  generalize q % 4 = r at *
  have h1 := rightB_yes hp.1.1 hp.1.2
  have h2 := rightB_yes hp.2.1 hp.2.2
  obtain ⟨hx, hy⟩ := hp
  rcases (by omega : r = 1 ∨ r = 2 ∨ r = 3 ∨ r = 0) with rfl | rfl | rfl | rfl
  · rw [if_pos rfl]
    exact both_yes (x := -p.y) (y := p.x) (by omega) hx (take_of (dot5_of rightB_0 h1 rightB_m1 h2 rightB_0 (by rw [dots5, show 0 * p.x + (-65536 * p.y + 0 * 65536) = (-p.y) * 65536 by omega, rnd_whole]))
      (dot5_of rightB_1 h1 rightB_0 h2 rightB_0 (by rw [dots5, show 65536 * p.x + (0 * p.y + 0 * 65536) = p.x * 65536 by omega, rnd_whole])))
  · rw [if_neg (by decide), if_pos rfl]
    exact both_yes (x := -p.x) (y := -p.y) (by omega) (by omega) (take_of (dot5_of rightB_m1 h1 rightB_0 h2 rightB_0 (by rw [dots5, show -65536 * p.x + (0 * p.y + 0 * 65536) = (-p.x) * 65536 by omega, rnd_whole]))
      (dot5_of rightB_0 h1 rightB_m1 h2 rightB_0 (by rw [dots5, show 0 * p.x + (-65536 * p.y + 0 * 65536) = (-p.y) * 65536 by omega, rnd_whole])))
  · rw [if_neg (by decide), if_neg (by decide), if_pos rfl]
    have h := both_yes (x := p.y) (y := -p.x) (m := ⟨0, -65536, 65536, 0, 0, 0⟩) (p := p) hy (by omega) (take_of (dot5_of rightB_0 h1 rightB_1 h2 rightB_0 (by rw [dots5, show 0 * p.x + (65536 * p.y + 0 * 65536) = p.y * 65536 by omega, rnd_whole]))
      (dot5_of rightB_m1 h1 rightB_0 h2 rightB_0 (by rw [dots5, show -65536 * p.x + (0 * p.y + 0 * 65536) = (-p.x) * 65536 by omega, rnd_whole])))
    refine ⟨h.1, h.2.trans ?_⟩
    show (⟨p.y, -p.x⟩ : Pt) = ⟨- -p.y, -p.x⟩
    rw [Int.neg_neg]
  · rw [if_neg (by decide), if_neg (by decide), if_neg (by decide)]
    exact one_take ⟨hx, hy⟩
theorem turn_back {p : Pt} (hp : ptR p) (q : Int) : ∃ b : Mp, (Mp.turn q).back = (b, 0) ∧ backOK b (rot (q % 4).toNat p) ∧ b.from_ (rot (q % 4).toNat p) = p := by
  have h4 : 0 ≤ q % 4 ∧ q % 4 < 4 := by omega
  have hR := rot_R hp (q % 4).toNat
  obtain ⟨hx, hy⟩ := hR
  have hrr : ∀ b : Mp, b.right = true → backOK b (rot (q % 4).toNat p) := fun b hb => ⟨hb, by omega, by omega⟩
  clear hx hy
  unfold Mp.turn
  generalize q % 4 = r at *
  obtain ⟨px, py⟩ := p
  rcases (by omega : r = 1 ∨ r = 2 ∨ r = 3 ∨ r = 0) with rfl | rfl | rfl | rfl
  · rw [if_pos rfl]
    refine ⟨⟨0, -65536, 65536, 0, 0, 0⟩, by decide +kernel, hrr _ (by decide), ?_⟩
    show (⟨rnd (0 * (-py - 0) + 65536 * (px - 0)) 65536, rnd (-65536 * (-py - 0) + 0 * (px - 0)) 65536⟩ : Pt) = _
    rw [show 0 * (-py - 0) + 65536 * (px - 0) = px * 65536 by omega, show -65536 * (-py - 0) + 0 * (px - 0) = py * 65536 by omega, rnd_whole, rnd_whole]
  · rw [if_neg (by decide), if_pos rfl]
    refine ⟨⟨-65536, 0, 0, -65536, 0, 0⟩, by decide +kernel, hrr _ (by decide), ?_⟩
    show (⟨rnd (-65536 * (-px - 0) + 0 * (-py - 0)) 65536, rnd (0 * (-px - 0) + -65536 * (-py - 0)) 65536⟩ : Pt) = _
    rw [show -65536 * (-px - 0) + 0 * (-py - 0) = px * 65536 by omega, show 0 * (-px - 0) + -65536 * (-py - 0) = py * 65536 by omega, rnd_whole, rnd_whole]
  · rw [if_neg (by decide), if_neg (by decide), if_pos rfl]
    refine ⟨⟨0, 65536, -65536, 0, 0, 0⟩, by decide +kernel, hrr _ (by decide), ?_⟩
    show (⟨rnd (0 * (- -py - 0) + -65536 * (-px - 0)) 65536, rnd (65536 * (- -py - 0) + 0 * (-px - 0)) 65536⟩ : Pt) = _
    rw [show 0 * (- -py - 0) + -65536 * (-px - 0) = px * 65536 by omega, show 65536 * (- -py - 0) + 0 * (-px - 0) = py * 65536 by omega, rnd_whole, rnd_whole]
  · rw [if_neg (by decide), if_neg (by decide), if_neg (by decide)]
    refine ⟨Mp.one, by decide +kernel, hrr _ (by decide), ?_⟩
    show (⟨rnd (65536 * (px - 0) + 0 * (py - 0)) 65536, rnd (0 * (px - 0) + 65536 * (py - 0)) 65536⟩ : Pt) = _
    rw [show 65536 * (px - 0) + 0 * (py - 0) = px * 65536 by omega, show 0 * (px - 0) + 65536 * (py - 0) = py * 65536 by omega, rnd_whole, rnd_whole]
end Go.Proofs.Ytmbfkaodoankaaa
