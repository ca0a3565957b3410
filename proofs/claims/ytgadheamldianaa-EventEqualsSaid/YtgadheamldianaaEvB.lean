/-
  Fixed numbers, maps.
-/
import Derived.Test.YtgadheamldianaaEvA
import Derived.Deep.QuietTactic
import Derived.BigQuiet
import Derived.Laws.BitsLemmas

namespace Go.Proofs.Ytgadheamldianaa
open Go.RowKit

/-- the ratio, rounded -/
def rnd (n d : Int) : Int := if d - n % d ≤ n % d then n / d + 1 else n / d


/-- Go's own division, and what is left, told by the one that rounds down -/
theorem tdiv_facts (n d : Int) (h1 : -4611686018427387904 ≤ n) (h2 : n ≤ 4611686018427387904) (h3 : 1 ≤ d) (h4 : d ≤ 4611686018427387904) :
    (-4611686018427387904 ≤ n.tdiv d ∧ n.tdiv d ≤ 4611686018427387904) ∧ (-d < n.tmod d ∧ n.tmod d < d) ∧
    (n.tmod d < 0 → n / d = n.tdiv d - 1 ∧ n % d = n.tmod d + d ∧ -4611686018427387904 ≤ n.tdiv d - 1) ∧ (0 ≤ n.tmod d → n / d = n.tdiv d ∧ n % d = n.tmod d) := by
  have g1 := Int.emod_nonneg n (show d ≠ 0 by omega)
  have g2 := Int.emod_lt_of_pos n (show 0 < d by omega)
  have g3 := Int.tdiv_eq_ediv (a := n) (b := d)
  have g4 := Int.tmod_eq_emod (a := n) (b := d)
  have hs : d.sign = 1 := Int.sign_eq_one_of_pos (by omega)
  have hn : (d.natAbs : Int) = d := by omega
  have b1 : -4611686018427387904 ≤ n / d ∧ n / d ≤ 4611686018427387904 := by
    constructor
    · rcases (by omega : 0 ≤ n ∨ n < 0) with h | h
      · have := Int.ediv_nonneg h (show 0 ≤ d by omega); omega
      · have hm : n * d ≤ n * 1 := Int.mul_le_mul_of_nonpos_left (by omega) h3
        have := Int.le_ediv_of_mul_le (show 0 < d by omega) (show n * d ≤ n by omega)
        omega
    · rcases (by omega : 0 ≤ n ∨ n < 0) with h | h
      · have := Int.ediv_le_self d h; omega
      · have := Int.ediv_neg_of_neg_of_pos h (show 0 < d by omega); omega
  rcases (by omega : 0 ≤ n ∨ n < 0) with h | h
  · simp only [h, true_or, if_true] at g3 g4
    omega
  · have hng : ¬ 0 ≤ n := by omega
    by_cases h0 : d ∣ n
    · simp only [h0, or_true, if_true] at g3 g4
      have := Int.emod_eq_zero_of_dvd h0
      omega
    · simp only [h0, hng, or_self, if_false, hs, hn] at g3 g4
      have : 0 < n % d := by
        rcases (by omega : n % d = 0 ∨ 0 < n % d) with h5 | h5
        · exact absurd (Int.dvd_of_emod_eq_zero h5) h0
        · exact h5
      have b2 : n / d < 0 := Int.ediv_neg_of_neg_of_pos h (show 0 < d by omega)
      omega

def ceilI (n : Int) : Int := if 0 < n % 65536 then n / 65536 + 1 else n / 65536
end Go.Proofs.Ytgadheamldianaa

namespace Go.Proofs.Ytgadheamldianaa
open Go.RowKit

def rightB (a : Int) : Bool := decide (-1073741824 ≤ a ∧ a ≤ 1073741824)
def allR (l : List Int) : Bool := l.all rightB
theorem rightB_yes {a : Int} (h : -1073741824 ≤ a) (h' : a ≤ 1073741824) : rightB a = true := decide_eq_true ⟨h, h'⟩
theorem rightB_no {a : Int} (h : a < -1073741824 ∨ 1073741824 < a) : rightB a = false := decide_eq_false (by omega)
theorem rightB_of {a : Int} (h : rightB a = true) : -1073741824 ≤ a ∧ a ≤ 1073741824 := of_decide_eq_true h
theorem allR_at {l : List Int} (h : allR l = true) {k : Nat} (hk : k < l.length) : -1073741824 ≤ l[k] ∧ l[k] ≤ 1073741824 := rightB_of (List.all_eq_true.1 h _ (List.getElem_mem hk))
theorem allR_snoc {l : List Int} {k : Nat} (h : allR (l.take k) = true) (hk : k < l.length) (hx : rightB l[k] = true) : allR (l.take (k + 1)) = true := by
  rw [List.take_succ_eq_append_getElem hk]
  unfold allR at *
  rw [List.all_append, h]
  simp only [List.all_cons, List.all_nil, hx, Bool.and_true]
theorem allR_bad {l : List Int} {k : Nat} (hk : k < l.length) (hx : rightB l[k] = false) : allR l = false := by
  unfold allR
  rw [List.all_eq_false]
  exact ⟨_, List.getElem_mem hk, by simp [hx]⟩
theorem allR_take {l : List Int} {k : Nat} (h : allR (l.take k) = true) (hk : l.length ≤ k) : allR l = true := by rwa [List.take_of_length_le hk] at h

/-! ### The document's own -/
theorem floor_of {n d q : Int} (hd : 1 ≤ d) (h1 : q * d ≤ n) (h2 : n < (q + 1) * d) : n / d = q := by
  have := Int.le_ediv_of_mul_le (show 0 < d by omega) h1
  have := Int.ediv_lt_of_lt_mul (show 0 < d by omega) h2
  omega
theorem prod_bd {a b : Int} (h1 : -1073741824 ≤ a) (h2 : a ≤ 1073741824) (h3 : -1073741824 ≤ b) (h4 : b ≤ 1073741824) : -1152921504606846976 ≤ a * b ∧ a * b ≤ 1152921504606846976 := by
  have g1 : 0 ≤ (1073741824 - a) * (1073741824 - b) := Int.mul_nonneg (by omega) (by omega)
  have g2 : 0 ≤ (1073741824 + a) * (1073741824 + b) := Int.mul_nonneg (by omega) (by omega)
  have g3 : 0 ≤ (1073741824 - a) * (1073741824 + b) := Int.mul_nonneg (by omega) (by omega)
  have g4 : 0 ≤ (1073741824 + a) * (1073741824 - b) := Int.mul_nonneg (by omega) (by omega)
  rw [Int.sub_mul, Int.mul_sub, Int.mul_sub] at g1
  rw [Int.add_mul, Int.mul_add, Int.mul_add] at g2
  rw [Int.sub_mul, Int.mul_add, Int.mul_add] at g3
  rw [Int.add_mul, Int.mul_sub, Int.mul_sub] at g4
  omega
end Go.Proofs.Ytgadheamldianaa

namespace Go.Proofs.Ytgadheamldianaa
open Go.RowKit

def dots : List Int → Int
  | a :: b :: r => a * b + dots r
  | [a] => a * 65536
  | [] => 0
/-- what Dot tells -/
def dotV (l : List Int) : Int := if l.length ≤ 8 ∧ allR l = true ∧ rightB (rnd (dots l) 65536) = true then rnd (dots l) 65536 else 0
def dotB (l : List Int) : Bool := decide (l.length ≤ 8) && (allR l && rightB (rnd (dots l) 65536))
theorem dot_big {l : List Int} (h : 8 < l.length) : dotV l = 0 ∧ dotB l = false := by
  unfold dotV dotB
  rw [if_neg (by omega), decide_eq_false (by omega)]
  exact ⟨rfl, rfl⟩
theorem dot_wrong {l : List Int} (h : allR l = false) : dotV l = 0 ∧ dotB l = false := by
  unfold dotV dotB
  rw [if_neg (by simp [h]), h]
  simp
theorem dot_over {l : List Int} (h : rightB (rnd (dots l) 65536) = false) : dotV l = 0 ∧ dotB l = false := by
  unfold dotV dotB
  rw [if_neg (by simp [h]), h]
  simp
theorem dot_yes {l : List Int} (h1 : l.length ≤ 8) (h2 : allR l = true) (h : rightB (rnd (dots l) 65536) = true) : dotV l = rnd (dots l) 65536 ∧ dotB l = true := by
  unfold dotV dotB
  rw [if_pos ⟨h1, h2, h⟩, h, h2, decide_eq_true h1]
  exact ⟨rfl, rfl⟩
theorem allR_cons {a : Int} {l : List Int} (h : allR (a :: l) = true) : (-1073741824 ≤ a ∧ a ≤ 1073741824) ∧ allR l = true := by
  unfold allR at *
  rw [List.all_cons, Bool.and_eq_true] at h
  exact ⟨rightB_of h.1, h.2⟩
/-- two by two -/
theorem dots_bd : ∀ (n : Nat) (l : List Int), l.length ≤ 2 * n → allR l = true → -(1152921504606846976 * (n : Int)) ≤ dots l ∧ dots l ≤ 1152921504606846976 * (n : Int)
  | 0, l, h, _ => by
    have : l = [] := List.eq_nil_of_length_eq_zero (by omega)
    subst this
    simp [dots]
  | n + 1, [], _, _ => by simp [dots]; omega
  | n + 1, [a], _, hr => by
    obtain ⟨h, _⟩ := allR_cons hr
    simp [dots]
    omega
  | n + 1, a :: b :: r, h, hr => by
    obtain ⟨h1, hr⟩ := allR_cons hr
    obtain ⟨h2, hr⟩ := allR_cons hr
    have := dots_bd n r (by simp at h; omega) hr
    have := prod_bd h1.1 h1.2 h2.1 h2.2
    simp only [dots]
    push_cast
    omega
theorem allR_drop {l : List Int} (h : allR l = true) (k : Nat) : allR (l.drop k) = true := by
  unfold allR at *
  rw [List.all_eq_true] at *
  exact fun x hx => h x (List.mem_of_mem_drop hx)
theorem dots_two {l : List Int} {k : Nat} (h : k + 1 < l.length) : dots (l.drop k) = l[k] * l[k + 1] + dots (l.drop (k + 2)) := by
  rw [List.drop_eq_getElem_cons (show k < l.length by omega), List.drop_eq_getElem_cons h]
  rfl
theorem dots_last {l : List Int} {k : Nat} (h : k + 1 = l.length) : dots (l.drop k) = l[k] * 65536 := by
  rw [List.drop_eq_getElem_cons (show k < l.length by omega), List.drop_of_length_le (by omega)]
  rfl
theorem dots_none {l : List Int} {k : Nat} (h : l.length ≤ k) : dots (l.drop k) = 0 := by
  rw [List.drop_of_length_le h]
  rfl
/-- the sum of those ahead -/
theorem dots_part {l : List Int} {k j : Nat} (hk : k = 2 * j) (h8 : l.length ≤ 8) (hkl : k ≤ l.length) (hr : allR l = true) :
    -4611686018427387904 ≤ dots l - dots (l.drop k) ∧ dots l - dots (l.drop k) ≤ 4611686018427387904 ∧ -4611686018427387904 ≤ dots l ∧ dots l ≤ 4611686018427387904 := by
  have h1 : ∀ (j : Nat) (l : List Int), 2 * j ≤ l.length → allR l = true → -(1152921504606846976 * (j : Int)) ≤ dots l - dots (l.drop (2 * j)) ∧ dots l - dots (l.drop (2 * j)) ≤ 1152921504606846976 * (j : Int) := by
    intro j
    induction j with
    | zero => intro l _ _; simp
    | succ j ih =>
      intro l hl hr
      match l, hl, hr with
      | [], hl, _ => simp at hl
      | [a], hl, _ => simp at hl; omega
      | a :: b :: r, hl, hr =>
        obtain ⟨h1, hr⟩ := allR_cons hr
        obtain ⟨h2, hr⟩ := allR_cons hr
        have := ih r (by simp at hl; omega) hr
        have := prod_bd h1.1 h1.2 h2.1 h2.2
        have e : (a :: b :: r).drop (2 * (j + 1)) = r.drop (2 * j) := by rw [show 2 * (j + 1) = 2 * j + 2 by omega]; rfl
        rw [e]
        simp only [dots]
        push_cast
        omega
  have h2 := h1 j l (by omega) hr
  have h3 := dots_bd 4 l (by omega) hr
  subst hk
  have : (j : Int) ≤ 4 := by omega
  omega

/-- where the sum stands: m is left, P stands for those ahead -/
def HalfF (l m : List Int) (P : Int) : Prop := ∃ j, m = l.drop (2 * j) ∧ 2 * j ≤ l.length ∧ P = dots l - dots m
theorem HalfF.start (l : List Int) : HalfF l l 0 := ⟨0, by simp, by omega, by omega⟩
theorem HalfF.two {l m : List Int} {P a b : Int} {r : List Int} (h : HalfF l m P) (hm : m = a :: b :: r) (h8 : l.length ≤ 8) (hr : allR l = true) :
    HalfF l r (P + a * b) ∧ (-1152921504606846976 ≤ a * b ∧ a * b ≤ 1152921504606846976) ∧ (-4611686018427387904 ≤ P ∧ P ≤ 4611686018427387904) ∧ (-4611686018427387904 ≤ P + a * b ∧ P + a * b ≤ 4611686018427387904) := by
  obtain ⟨j, e, hj, rfl⟩ := h
  subst hm
  have hl : l.length - 2 * j = r.length + 2 := by
    have := congrArg List.length e
    rw [List.length_drop] at this
    simp at this
    omega
  have hd : l.drop (2 * (j + 1)) = r := by
    rw [show 2 * (j + 1) = 2 * j + 2 by omega, ← List.drop_drop, ← e]
    rfl
  have hrr := allR_drop hr (2 * j)
  rw [← e] at hrr
  obtain ⟨h1, hrr⟩ := allR_cons hrr
  obtain ⟨h2, hrr⟩ := allR_cons hrr
  have p1 := dots_part (k := 2 * j) rfl h8 hj hr
  have p2 := dots_part (k := 2 * (j + 1)) rfl h8 (by omega) hr
  rw [← e] at p1
  rw [hd] at p2
  have p3 := prod_bd h1.1 h1.2 h2.1 h2.2
  have p4 : dots (a :: b :: r) = a * b + dots r := rfl
  refine ⟨⟨j + 1, hd.symm, by omega, by omega⟩, p3, by omega, by omega⟩
theorem HalfF.one {l m : List Int} {P a : Int} (h : HalfF l m P) (hm : m = [a]) (h8 : l.length ≤ 8) (hr : allR l = true) :
    P + a * 65536 = dots l ∧ (-1073741824 ≤ a ∧ a ≤ 1073741824) ∧ (-4611686018427387904 ≤ P ∧ P ≤ 4611686018427387904) ∧ (-4611686018427387904 ≤ P + a * 65536 ∧ P + a * 65536 ≤ 4611686018427387904) := by
  obtain ⟨j, e, hj, rfl⟩ := h
  subst hm
  have hrr := allR_drop hr (2 * j)
  rw [← e] at hrr
  obtain ⟨h1, hrr⟩ := allR_cons hrr
  have p1 := dots_part (k := 2 * j) rfl h8 hj hr
  rw [← e] at p1
  have p4 : dots [a] = a * 65536 := rfl
  refine ⟨by omega, h1, by omega, by omega⟩
theorem HalfF.none {l m : List Int} {P : Int} (h : HalfF l m P) (hm : m = []) (h8 : l.length ≤ 8) (hr : allR l = true) :
    P = dots l ∧ (-4611686018427387904 ≤ P ∧ P ≤ 4611686018427387904) := by
  obtain ⟨j, e, hj, rfl⟩ := h
  subst hm
  have p1 := dots_part (k := 2 * j) rfl h8 hj hr
  have p4 : dots ([] : List Int) = 0 := rfl
  omega

end Go.Proofs.Ytgadheamldianaa

namespace Go.Proofs.Ytgadheamldianaa
open Go.RowKit

/-! ### The document's own: places are gone through -/
theorem half_at {l : List Int} {i : Nat} (hi : i = 2 * (i / 2)) (hle : i ≤ l.length + 1) (h8 : l.length ≤ 8) (hr : allR l = true) {P : Int} (hP : P = dots l - dots (l.drop i)) :
    -4611686018427387904 ≤ P ∧ P ≤ 4611686018427387904 := by
  by_cases h : i ≤ l.length
  · have := dots_part hi h8 h hr
    omega
  · have := dots_part (k := 0) (j := 0) rfl h8 (by omega) hr
    rw [dots_none (by omega)] at hP
    omega

end Go.Proofs.Ytgadheamldianaa

namespace Go.Proofs.Ytgadheamldianaa
open Go.RowKit

structure Mp where
  a : Int
  b : Int
  c : Int
  d : Int
  e : Int
  f : Int
deriving DecidableEq
structure Pt where
  x : Int
  y : Int
deriving DecidableEq
def Mp.v (m : Mp) : Value := .agg #[.int .i64 m.a, .int .i64 m.b, .int .i64 m.c, .int .i64 m.d, .int .i64 m.e, .int .i64 m.f]
def Mp.cs (m : Mp) : List Value := [.int .i64 m.a, .int .i64 m.b, .int .i64 m.c, .int .i64 m.d, .int .i64 m.e, .int .i64 m.f]
def Mp.l (m : Mp) : List Int := [m.a, m.b, m.c, m.d, m.e, m.f]
def Mp.o : Mp := ⟨0, 0, 0, 0, 0, 0⟩
def Mp.right (m : Mp) : Bool := allR m.l
def Pt.v (p : Pt) : Value := .agg #[.int .i64 p.x, .int .i64 p.y]
def Pt.cs (p : Pt) : List Value := [.int .i64 p.x, .int .i64 p.y]
def Mp.dx (m : Mp) (p : Pt) : List Int := [m.a, p.x, m.c, p.y, m.e]
def Mp.dy (m : Mp) (p : Pt) : List Int := [m.b, p.x, m.d, p.y, m.f]
def Mp.takes (m : Mp) (p : Pt) : Bool := dotB (m.dx p) && dotB (m.dy p)
def Mp.take (m : Mp) (p : Pt) : Pt := if m.takes p = true then ⟨dotV (m.dx p), dotV (m.dy p)⟩ else ⟨0, 0⟩

theorem Blk.put2 {w : World} {g : Nat} {p q : Value} (h : Blk w g [p, q]) (p' q' : Value) : Blk ((w.setCell ⟨g, 0, none⟩ p').setCell ⟨g, 1, none⟩ q') g [p', q'] := (h.set 0 p').set 1 q'
theorem Blk.off2 {w : World} {g k : Nat} {cs : List Value} (h : Blk w k cs) (hg : k ≠ g) (p' q' : Value) : Blk ((w.setCell ⟨g, 0, none⟩ p').setCell ⟨g, 1, none⟩ q') k cs := (h.other hg 0 p').other hg 1 q'
theorem below2 {w W : World} {B g : Nat} (h : Below B w W) (hg : B ≤ g) (p' q' : Value) : Below B w ((W.setCell ⟨g, 0, none⟩ p').setCell ⟨g, 1, none⟩ q') := below_set (below_set h hg) hg
theorem Blk.c6 {w : World} {g : Nat} {p q r s t u : Value} (h : Blk w g [p, q, r, s, t, u]) : (w.cell? ⟨g, 0, none⟩ = some p ∧ w.cell? ⟨g, 1, none⟩ = some q ∧ w.cell? ⟨g, 2, none⟩ = some r ∧ w.cell? ⟨g, 3, none⟩ = some s ∧ w.cell? ⟨g, 4, none⟩ = some t ∧ w.cell? ⟨g, 5, none⟩ = some u) ∧
    (w.frozen? ⟨g, 0, none⟩ = false ∧ w.frozen? ⟨g, 1, none⟩ = false ∧ w.frozen? ⟨g, 2, none⟩ = false ∧ w.frozen? ⟨g, 3, none⟩ = false ∧ w.frozen? ⟨g, 4, none⟩ = false ∧ w.frozen? ⟨g, 5, none⟩ = false) ∧ g < w.heap.size :=
  ⟨⟨h.cell 0, h.cell 1, h.cell 2, h.cell 3, h.cell 4, h.cell 5⟩, ⟨h.free 0, h.free 1, h.free 2, h.free 3, h.free 4, h.free 5⟩, h.inside⟩
/-- six cells written -/
def put6 (w : World) (g : Nat) (p q r s t u : Value) : World := (((((w.setCell ⟨g, 0, none⟩ p).setCell ⟨g, 1, none⟩ q).setCell ⟨g, 2, none⟩ r).setCell ⟨g, 3, none⟩ s).setCell ⟨g, 4, none⟩ t).setCell ⟨g, 5, none⟩ u
theorem Blk.put6 {w : World} {g : Nat} {p q r s t u : Value} (h : Blk w g [p, q, r, s, t, u]) (p' q' r' s' t' u' : Value) : Blk ((((((w.setCell ⟨g, 0, none⟩ p').setCell ⟨g, 1, none⟩ q').setCell ⟨g, 2, none⟩ r').setCell ⟨g, 3, none⟩ s').setCell ⟨g, 4, none⟩ t').setCell ⟨g, 5, none⟩ u') g [p', q', r', s', t', u'] :=
  (((((h.set 0 p').set 1 q').set 2 r').set 3 s').set 4 t').set 5 u'
theorem Blk.off6 {w : World} {g k : Nat} {cs : List Value} (h : Blk w k cs) (hg : k ≠ g) (p' q' r' s' t' u' : Value) : Blk ((((((w.setCell ⟨g, 0, none⟩ p').setCell ⟨g, 1, none⟩ q').setCell ⟨g, 2, none⟩ r').setCell ⟨g, 3, none⟩ s').setCell ⟨g, 4, none⟩ t').setCell ⟨g, 5, none⟩ u') k cs :=
  (((((h.other hg 0 p').other hg 1 q').other hg 2 r').other hg 3 s').other hg 4 t').other hg 5 u'
theorem below6 {w W : World} {B g : Nat} (h : Below B w W) (hg : B ≤ g) (p' q' r' s' t' u' : Value) : Below B w ((((((W.setCell ⟨g, 0, none⟩ p').setCell ⟨g, 1, none⟩ q').setCell ⟨g, 2, none⟩ r').setCell ⟨g, 3, none⟩ s').setCell ⟨g, 4, none⟩ t').setCell ⟨g, 5, none⟩ u') :=
  below_set (below_set (below_set (below_set (below_set (below_set h hg) hg) hg) hg) hg) hg
/-- two results, the first of which stands in a cell -/
theorem blk_ret2 {P : Program} {fn : Func} {p q : Tmp} {ty : TypeId} {tmps : Array Value} {w : World} {g : Nat} {cs : List Value} {d : TypeDesc} {v : Value} {Q : Ending → World → Prop} (hfn : fn.results = #[.cell p ty, .tmp q])
    (hp : tmps.getD p undef = .pointer (some ⟨g, 0, none⟩)) (hq : tmps.getD q undef = v) (hB : Blk w g cs) (hu : P.underlying ty = some d) (hd : (match d with | .struct _ | .array _ _ => true | _ => false) = true) (hi : (P.info? ty).map (·.size) = some cs.length)
    (h : Q (.returned (.tuple #[.agg cs.toArray, v])) w) : bodyPost P fn Q Exit.ret { tmps := tmps, defers := [] } w := by
  obtain ⟨T, hg⟩ := hB
  refine bodyPost_ret_by (v := .tuple #[.agg cs.toArray, v]) ?_ rfl h
  have hp' : tmps[p]?.getD undef = .pointer (some ⟨g, 0, none⟩) := by simpa using hp
  have hq' : tmps[q]?.getD undef = v := by simpa using hq
  simp [results, hfn, hp', hq', asAddr, run_loadVar_row w g T ty _ _ d hg hu hd (by simpa using hi)]

end Go.Proofs.Ytgadheamldianaa

namespace Go.Proofs.Ytgadheamldianaa
open Go.RowKit

theorem i64_and3 (n : Int) : bits .and .i64 n 3 = n % 4 := by
  have h3 : (BitVec.ofInt 64 3).toNat = 2 ^ 2 - 1 := by decide
  have key : (BitVec.ofInt 64 n &&& BitVec.ofInt 64 3).toNat = (n % ((2 ^ 64 : Nat) : Int)).toNat % 2 ^ 2 := by
    rw [BitVec.toNat_and, BitVec.toNat_ofInt, h3, Nat.and_two_pow_sub_one_eq_mod]
  show IntKind.i64.wrap ((BitVec.ofInt 64 n &&& BitVec.ofInt 64 3).toNat : Nat) = n % 4
  rw [key, IntKind.wrap_i64]
  omega
theorem i64_and16 (n : Int) : bits .and .i64 n 65535 = n % 65536 := by
  have h3 : (BitVec.ofInt 64 65535).toNat = 2 ^ 16 - 1 := by decide
  have key : (BitVec.ofInt 64 n &&& BitVec.ofInt 64 65535).toNat = (n % ((2 ^ 64 : Nat) : Int)).toNat % 2 ^ 16 := by
    rw [BitVec.toNat_and, BitVec.toNat_ofInt, h3, Nat.and_two_pow_sub_one_eq_mod]
  show IntKind.i64.wrap ((BitVec.ofInt 64 n &&& BitVec.ofInt 64 65535).toNat : Nat) = n % 65536
  rw [key, IntKind.wrap_i64]
  omega

def Mp.one : Mp := ⟨65536, 0, 0, 65536, 0, 0⟩
def Mp.turn (q : Int) : Mp := if q % 4 = 1 then ⟨0, 65536, -65536, 0, 0, 0⟩ else if q % 4 = 2 then ⟨-65536, 0, 0, -65536, 0, 0⟩ else if q % 4 = 3 then ⟨0, -65536, 65536, 0, 0, 0⟩ else Mp.one
/-! ### The document's own -/
theorem Blk.at6 {w : World} {g : Nat} {l : List Int} (h : Blk w g (l.map eI)) {k : Nat} (hk : k < l.length) : w.cell? ⟨g, k, none⟩ = some (.int .i64 l[k]) := by
  rw [h.cell, List.getElem?_map, List.getElem?_eq_getElem hk]
  rfl
end Go.Proofs.Ytgadheamldianaa

namespace Go.Proofs.Ytgadheamldianaa
open Go.RowKit

/-! ### One map behind another -/
def Mp.still (n : Mp) : Mp := ⟨n.a, n.b, n.c, n.d, 0, 0⟩
def Mp.thenB (m n : Mp) : Bool := (n.still.takes ⟨m.a, m.b⟩ && n.still.takes ⟨m.c, m.d⟩) && n.takes ⟨m.e, m.f⟩
def Mp.then1 (m n : Mp) : Mp := ⟨(n.still.take ⟨m.a, m.b⟩).x, (n.still.take ⟨m.a, m.b⟩).y, (n.still.take ⟨m.c, m.d⟩).x, (n.still.take ⟨m.c, m.d⟩).y, (n.take ⟨m.e, m.f⟩).x, (n.take ⟨m.e, m.f⟩).y⟩
end Go.Proofs.Ytgadheamldianaa

namespace Go.Proofs.Ytgadheamldianaa
open Go.RowKit

theorem rightB_0 : rightB 0 = true := rightB_yes (by decide) (by decide)
theorem dots_0 (a b c d : Int) : dots [a, b, c, d, 0] = dots [a, b, c, d] := by
  show a * b + (c * d + 0 * 65536) = a * b + (c * d + 0)
  omega
theorem dot_0 (a b c d : Int) : dotB [a, b, c, d, 0] = dotB [a, b, c, d] ∧ dotV [a, b, c, d, 0] = dotV [a, b, c, d] := by
  have h1 : allR [a, b, c, d, 0] = allR [a, b, c, d] := by simp [allR, rightB_0]
  unfold dotB dotV
  rw [h1, dots_0]
  simp
/-- the six sums of products -/
def Mp.dl (m n : Mp) : List (List Int) := [[n.a, m.a, n.c, m.b], [n.b, m.a, n.d, m.b], [n.a, m.c, n.c, m.d], [n.b, m.c, n.d, m.d], [n.a, m.e, n.c, m.f, n.e], [n.b, m.e, n.d, m.f, n.f]]
def Mp.dok (m n : Mp) : Bool := (m.dl n).all dotB
theorem Mp.dok_eq (m n : Mp) : m.dok n = m.thenB n := by
  unfold Mp.dok Mp.dl Mp.thenB Mp.takes Mp.dx Mp.dy Mp.still
  simp only [List.all_cons, List.all_nil, Bool.and_true, (dot_0 _ _ _ _).1, Bool.and_assoc]
theorem Mp.dl_val (m n : Mp) (h : m.thenB n = true) : (m.dl n).map (fun l => eI (dotV l)) = (m.then1 n).cs := by
  unfold Mp.thenB at h
  simp only [Bool.and_eq_true] at h
  obtain ⟨⟨h1, h2⟩, h3⟩ := h
  unfold Mp.then1 Mp.take Mp.cs
  rw [if_pos h1, if_pos h2, if_pos h3]
  unfold Mp.dl Mp.dx Mp.dy Mp.still eI
  simp only [List.map_cons, List.map_nil, (dot_0 _ _ _ _).2]
/-- what stands in the array when k numbers are written -/
def outs (D : List (List Int)) (k : Nat) : List Value := (D.take k).map (fun l => eI (dotV l)) ++ List.replicate (D.length - k) (eI 0)
theorem outs_step (D : List (List Int)) {k : Nat} (hk : k < D.length) : (outs D k).set k (eI (dotV D[k])) = outs D (k + 1) := by
  unfold outs
  have e : D.length - k = (D.length - (k + 1)) + 1 := by omega
  rw [List.take_succ_eq_append_getElem hk, List.map_append, e, List.replicate_succ, List.set_append, if_neg (by simp [Nat.min_eq_left (Nat.le_of_lt hk)])]
  simp [Nat.min_eq_left (Nat.le_of_lt hk)]
theorem outs_at (D : List (List Int)) {k : Nat} (hk : k < D.length) : (outs D k)[k]? = some (.int .i64 0) := by
  unfold outs
  rw [List.getElem?_append_right (by simp [Nat.min_eq_left (Nat.le_of_lt hk)])]
  simp only [List.length_map, List.length_take, Nat.min_eq_left (Nat.le_of_lt hk), Nat.sub_self, List.getElem?_replicate]
  rw [if_pos (by omega)]
  rfl
theorem outs_all (D : List (List Int)) : outs D D.length = D.map (fun l => eI (dotV l)) := by simp [outs]
theorem all_snoc {α : Type} {p : α → Bool} {l : List α} {k : Nat} (h : (l.take k).all p = true) (hk : k < l.length) (hx : p l[k] = true) : (l.take (k + 1)).all p = true := by
  rw [List.take_succ_eq_append_getElem hk, List.all_append, h]
  simp [hx]
theorem all_bad {α : Type} {p : α → Bool} {l : List α} {k : Nat} (hk : k < l.length) (hx : p l[k] = false) : l.all p = false := by
  rw [List.all_eq_false]
  exact ⟨_, List.getElem_mem hk, by simp [hx]⟩
theorem Row.block {α : Type} {enc : α → Value} {w w' : World} {g B : Nat} {l : List α} (h : Row enc w (some ⟨g, 0, none⟩) l) (hb : Below B w w') (hg : g < B) : Row enc w' (some ⟨g, 0, none⟩) l := fun hn => by
  obtain ⟨b, off, e, hc⟩ := h hn
  refine ⟨b, off, e, fun j hj => ?_⟩
  simp only [Option.some.injEq, Addr.mk.injEq, and_true] at e
  obtain ⟨rfl, rfl⟩ := e
  exact (hb.cell (p := ⟨g, _, none⟩) hg).trans (hc j hj)
/-- the rows that the array leads to -/
def Rows6 (w : World) (gA : Nat) (D : List (List Int)) : Prop := ∀ k (hk : k < D.length), ∃ g, g < gA ∧ w.cell? ⟨gA, k, none⟩ = some (.slice (some ⟨g, 0, none⟩) D[k].length D[k].length) ∧ Row eI w (some ⟨g, 0, none⟩) D[k]
theorem rows6_mk {w : World} {gA : Nat} {D : List (List Int)} {cs : List Value} (hb : Blk w gA cs) (h : ∀ k (hk : k < D.length), ∃ g, g < gA ∧ cs[k]? = some (.slice (some ⟨g, 0, none⟩) D[k].length D[k].length) ∧ Row eI w (some ⟨g, 0, none⟩) D[k]) : Rows6 w gA D := fun k hk => by
  obtain ⟨g, hg, hc, hr⟩ := h k hk
  exact ⟨g, hg, (hb.cell k).trans hc, hr⟩
theorem Rows6.below {w w' : World} {gA : Nat} {D : List (List Int)} (h : Rows6 w gA D) (hb : Below (gA + 1) w w') : Rows6 w' gA D := fun k hk => by
  obtain ⟨g, hg, hc, hr⟩ := h k hk
  exact ⟨g, hg, (hb.cell (p := ⟨gA, _, none⟩) (Nat.lt_succ_self _)).trans hc, hr.block hb (by omega)⟩

end Go.Proofs.Ytgadheamldianaa

namespace Go.Proofs.Ytgadheamldianaa
open Go.RowKit

def MRow (w : World) (A : Option Addr) (l : List Mp) : Prop := SRow 6 Mp.cs w A l
theorem MRow.below {w w' : World} {A : Option Addr} {l : List Mp} (h : MRow w A l) (hb : Below w.heap.size w w') : MRow w' A l := SRow.below h hb
theorem MRow.at_ {w : World} {A : Option Addr} {l : List Mp} (h : MRow w A l) {j : Nat} (hj : j < l.length) : ∃ b off, A = some ⟨b, off, none⟩ ∧ w.cell? ⟨b, off + j * 6, none⟩ = some (.int .i64 l[j].a) ∧ w.cell? ⟨b, off + j * 6 + 1, none⟩ = some (.int .i64 l[j].b) ∧ w.cell? ⟨b, off + j * 6 + 2, none⟩ = some (.int .i64 l[j].c) ∧ w.cell? ⟨b, off + j * 6 + 3, none⟩ = some (.int .i64 l[j].d) ∧ w.cell? ⟨b, off + j * 6 + 4, none⟩ = some (.int .i64 l[j].e) ∧ w.cell? ⟨b, off + j * 6 + 5, none⟩ = some (.int .i64 l[j].f) := by
  obtain ⟨b, off, e, hc⟩ := h (by omega)
  exact ⟨b, off, e, hc j hj 0 _ rfl, hc j hj 1 _ rfl, hc j hj 2 _ rfl, hc j hj 3 _ rfl, hc j hj 4 _ rfl, hc j hj 5 _ rfl⟩
theorem Mp.cs_len (m : Mp) : m.cs.length = 6 := rfl
theorem mrow_new (w : World) (l : List Mp) (T : TypeId) {g : Nat} (hg : g = w.heap.size) : MRow (w.alloc (.cells (l.flatMap Mp.cs).toArray T)) (some ⟨g, 0, none⟩) l := srow_new Mp.cs_len w l T hg

def Mp.run (m : Mp) : List Mp → Mp × Bool
  | [] => (m, true)
  | n :: l => if m.thenB n = true then (m.then1 n).run l else (Mp.o, false)
def Mp.thens (m : Mp) (l : List Mp) : Mp × Int := if m.right = true ∧ l.all Mp.right = true then ((m.run l).1, if (m.run l).2 = true then 0 else 35) else (Mp.o, 11)
theorem thens_bad {m : Mp} {l : List Mp} (h : m.right = false ∨ l.all Mp.right = false) : m.thens l = (Mp.o, 11) := by
  unfold Mp.thens
  rw [if_neg (by rcases h with h | h <;> simp [h])]
theorem thens_yes {m q : Mp} {l : List Mp} (h1 : m.right = true) (h2 : l.all Mp.right = true) (h : m.run l = (q, true)) : m.thens l = (q, 0) := by
  unfold Mp.thens
  rw [if_pos ⟨h1, h2⟩, h, if_pos rfl]
theorem thens_over {m q : Mp} {l : List Mp} (h1 : m.right = true) (h2 : l.all Mp.right = true) (h : m.run l = (q, false)) : m.thens l = (q, 35) := by
  unfold Mp.thens
  rw [if_pos ⟨h1, h2⟩, h, if_neg (by simp)]
theorem run_step {q n : Mp} {l : List Mp} {k : Nat} (hk : k < l.length) (hn : l[k] = n) : q.run (l.drop k) = if q.thenB n = true then (q.then1 n).run (l.drop (k + 1)) else (Mp.o, false) := by
  rw [List.drop_eq_getElem_cons hk, hn]
  rfl

end Go.Proofs.Ytgadheamldianaa
