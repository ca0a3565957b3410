/-
  Layer 9 as plain arithmetic: four parts, one part by another one, one pixel over another one. No word of the program.
-/
import Derived.Test.YtboelbmpcbeifaaDoorKit
namespace Go.Proofs.YtboelbmpcbeifaaDoor
namespace pxm

structure P4 where
  r : Nat
  g : Nat
  b : Nat
  a : Nat
/-- a part by a part, rounded -/
def by_ (x q : Nat) : Nat := (x * q + 127) / 255
def P4.num (p : P4) : Nat := p.a + 256 * p.b + 65536 * p.g + 16777216 * p.r
def P4.Bytes (p : P4) : Prop := p.r < 256 ∧ p.g < 256 ∧ p.b < 256 ∧ p.a < 256
def P4.Right (p : P4) : Prop := p.r ≤ p.a ∧ p.g ≤ p.a ∧ p.b ≤ p.a ∧ p.a ≤ 255
def P4.rightB (p : P4) : Bool := decide (p.r ≤ p.a) && (decide (p.g ≤ p.a) && (decide (p.b ≤ p.a) && decide (p.a ≤ 255)))
theorem P4.rightB_iff {p : P4} : p.rightB = true ↔ p.Right := by
  unfold P4.rightB P4.Right
  simp only [Bool.and_eq_true, decide_eq_true_eq]
def frm (n : Nat) : P4 := ⟨n / 16777216, n / 65536 % 256, n / 256 % 256, n % 256⟩
def P4.times (p : P4) (q : Nat) : P4 := ⟨by_ p.r q, by_ p.g q, by_ p.b q, by_ p.a q⟩
def P4.over (s d : P4) : P4 := ⟨s.r + by_ d.r (255 - s.a), s.g + by_ d.g (255 - s.a), s.b + by_ d.b (255 - s.a), s.a + by_ d.a (255 - s.a)⟩
def zero : P4 := ⟨0, 0, 0, 0⟩
/-- the part at a place: A is at the place 0 -/
def P4.at_ (p : P4) : Nat → Nat
  | 0 => p.a
  | 1 => p.b
  | 2 => p.g
  | _ => p.r

theorem P4.Right.bytes {p : P4} (h : p.Right) : p.Bytes := by
  obtain ⟨h1, h2, h3, h4⟩ := h
  exact ⟨by omega, by omega, by omega, by omega⟩
theorem P4.Bytes.lt {p : P4} (h : p.Bytes) : p.num < 4294967296 := by
  obtain ⟨h1, h2, h3, h4⟩ := h
  unfold P4.num
  omega
theorem P4.Bytes.at_ {p : P4} (h : p.Bytes) (k : Nat) : p.at_ k < 256 := by
  obtain ⟨h1, h2, h3, h4⟩ := h
  match k with
  | 0 => exact h4
  | 1 => exact h3
  | 2 => exact h2
  | _ + 3 => exact h1
theorem frm_bytes {n : Nat} (h : n < 4294967296) : (frm n).Bytes := by
  unfold frm P4.Bytes
  simp only
  omega
theorem num_frm {n : Nat} : (frm n).num = n := by
  unfold frm P4.num
  simp only
  omega
theorem frm_num {p : P4} (h : p.Bytes) : frm p.num = p := by
  obtain ⟨h1, h2, h3, h4⟩ := h
  obtain ⟨r, g, b, a⟩ := p
  simp only at h1 h2 h3 h4
  unfold frm P4.num
  simp only [P4.mk.injEq]
  omega
theorem num_inj {p q : P4} (hp : p.Bytes) (hq : q.Bytes) (h : p.num = q.num) : p = q := by
  rw [← frm_num hp, ← frm_num hq, h]
theorem by_255 (x : Nat) : by_ x 255 = x := by unfold by_; omega
theorem by_0 (x : Nat) : by_ x 0 = 0 := by unfold by_; omega
theorem by_comm (x q : Nat) : by_ x q = by_ q x := by unfold by_; rw [Nat.mul_comm]
theorem by_mono {x y : Nat} (h : x ≤ y) (q : Nat) : by_ x q ≤ by_ y q := by
  unfold by_
  exact Nat.div_le_div_right (Nat.add_le_add_right (Nat.mul_le_mul_right q h) 127)
theorem by_le {x : Nat} (h : x ≤ 255) (q : Nat) : by_ x q ≤ q := by
  have h1 := by_mono h q
  rw [by_comm 255 q, by_255] at h1
  exact h1
theorem mul_lt {x q : Nat} (hx : x < 256) (hq : q < 256) : x * q ≤ 65025 := Nat.mul_le_mul (show x ≤ 255 by omega) (show q ≤ 255 by omega)
theorem by_lt {x q : Nat} (hx : x < 256) (hq : q < 256) : by_ x q < 256 := by
  have := by_le (show x ≤ 255 by omega) q
  omega
theorem P4.Right.times {p : P4} (h : p.Right) {q : Nat} (hq : q < 256) : (p.times q).Right := by
  obtain ⟨h1, h2, h3, h4⟩ := h
  exact ⟨by_mono h1 q, by_mono h2 q, by_mono h3 q, by have := by_le h4 q; show by_ p.a q ≤ 255; omega⟩
theorem P4.Right.over {s d : P4} (hs : s.Right) (hd : d.Right) : (s.over d).Right := by
  obtain ⟨h1, h2, h3, h4⟩ := hs
  obtain ⟨k1, k2, k3, k4⟩ := hd
  refine ⟨Nat.add_le_add h1 (by_mono k1 _), Nat.add_le_add h2 (by_mono k2 _), Nat.add_le_add h3 (by_mono k3 _), ?_⟩
  have := by_le k4 (255 - s.a)
  show s.a + by_ d.a (255 - s.a) ≤ 255
  omega
theorem zero_right : zero.Right := by simp [P4.Right, zero]
theorem zero_num : zero.num = 0 := rfl
theorem over_full {s : P4} (d : P4) (h : s.a = 255) : s.over d = s := by
  obtain ⟨r, g, b, a⟩ := s
  simp only at h
  subst h
  unfold P4.over
  simp only [Nat.sub_self, by_0, Nat.add_zero]
theorem zero_over (d : P4) : zero.over d = d := by
  unfold P4.over zero
  simp only [Nat.sub_zero, by_255, Nat.zero_add]
theorem times_255 (p : P4) : p.times 255 = p := by
  unfold P4.times
  simp only [by_255]
theorem times_0 (p : P4) : p.times 0 = zero := by
  unfold P4.times zero
  simp only [by_0]
/-- over all of l, the first one on top -/
def overAll (p : P4) (l : List P4) : P4 := l.foldl P4.over p
/-- each laid over those ahead of it -/
def stack (d : P4) (l : List P4) : P4 := l.foldl (fun d p => p.over d) d
def timesAll (p : P4) (l : List Nat) : P4 := l.foldl P4.times p
theorem overAll_right {l : List P4} {p : P4} (hp : p.Right) (hl : ∀ d ∈ l, d.Right) : (overAll p l).Right := by
  induction l generalizing p with
  | nil => exact hp
  | cons d l ih => exact ih (hp.over (hl d List.mem_cons_self)) fun x hx => hl x (List.mem_cons_of_mem _ hx)
theorem stack_right {l : List P4} {d : P4} (hd : d.Right) (hl : ∀ p ∈ l, p.Right) : (stack d l).Right := by
  induction l generalizing d with
  | nil => exact hd
  | cons p l ih => exact ih ((hl p List.mem_cons_self).over hd) fun x hx => hl x (List.mem_cons_of_mem _ hx)
theorem timesAll_right {l : List Nat} {p : P4} (hp : p.Right) (hl : ∀ q ∈ l, q < 256) : (timesAll p l).Right := by
  induction l generalizing p with
  | nil => exact hp
  | cons q l ih => exact ih (hp.times (hl q List.mem_cons_self)) fun x hx => hl x (List.mem_cons_of_mem _ hx)
theorem stack_app (d : P4) (l m : List P4) : stack d (l ++ m) = stack (stack d l) m := List.foldl_append ..
/-- the document's way to round -/
theorem by_doc (n : Nat) : (n + 127) / 255 = if 255 < 2 * (n - 255 * (n / 255)) then n / 255 + 1 else n / 255 := by
  split <;> omega
/-- four bytes, one behind the other, as bits -/
def part4 (f : Nat → Nat) : Nat → Nat
  | 0 => 0
  | k + 1 => part4 f k + f k * 256 ^ k
theorem part4_lt {f : Nat → Nat} (hf : ∀ k, k < 4 → f k < 256) : ∀ k, k ≤ 4 → part4 f k < 256 ^ k
  | 0, _ => by simp [part4]
  | k + 1, hk => by
    have h1 := part4_lt hf k (by omega)
    have h2 := hf k (by omega)
    have h3 : f k * 256 ^ k ≤ 255 * 256 ^ k := Nat.mul_le_mul_right _ (by omega)
    have h4 : 256 ^ (k + 1) = 256 ^ k * 256 := Nat.pow_succ ..
    show part4 f k + f k * 256 ^ k < 256 ^ (k + 1)
    omega
theorem part4_num (p : P4) : part4 p.at_ 4 = p.num := by
  simp only [part4, P4.at_, P4.num]
  omega
/-- a byte laid behind bytes -/
theorem or_add {x y k : Nat} (hx : x < 256 ^ k) : x ||| y * 256 ^ k = x + y * 256 ^ k := by
  have e : (256 : Nat) ^ k = 2 ^ (8 * k) := by rw [Nat.pow_mul]
  rw [e] at hx ⊢
  rw [Nat.or_comm, Nat.add_comm, ← Nat.shiftLeft_eq, Nat.shiftLeft_add_eq_or_of_lt hx]
end pxm
end Go.Proofs.YtboelbmpcbeifaaDoor
