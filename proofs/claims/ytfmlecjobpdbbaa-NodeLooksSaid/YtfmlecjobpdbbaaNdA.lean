/-
  Layer 5 and layer 8, as far as layer 11 asks: right numbers, right maps.
-/
import Derived.Test.YtfmlecjobpdbbaaImA
namespace Go.Proofs.Ytfmlecjobpdbbaa
open Go.RowKit

def rightB (a : Int) : Bool := decide (-1073741824 ≤ a ∧ a ≤ 1073741824)
def allR (l : List Int) : Bool := l.all rightB
theorem rightB_yes {a : Int} (h : -1073741824 ≤ a) (h' : a ≤ 1073741824) : rightB a = true := decide_eq_true ⟨h, h'⟩
theorem rightB_no {a : Int} (h : a < -1073741824 ∨ 1073741824 < a) : rightB a = false := decide_eq_false (by omega)
theorem rightB_of {a : Int} (h : rightB a = true) : -1073741824 ≤ a ∧ a ≤ 1073741824 := of_decide_eq_true h
theorem allR_at {l : List Int} (h : allR l = true) {k : Nat} (hk : k < l.length) : -1073741824 ≤ l[k] ∧ l[k] ≤ 1073741824 := rightB_of (List.all_eq_true.1 h _ (List.getElem_mem hk))
theorem allR_snoc {l : List Int} {k : Nat} (h : allR (l.take k) = true) (hk : k < l.length) (hx : rightB l[k] = true) : allR (l.take (k + 1)) = true := by
  rw [List.take_succ_eq_append_getElem hk]
  unfold allR at *
  rw [List.all_append, h]
  simp only [List.all_cons, List.all_nil, hx, Bool.and_true]
theorem allR_bad {l : List Int} {k : Nat} (hk : k < l.length) (hx : rightB l[k] = false) : allR l = false := by
  unfold allR
  rw [List.all_eq_false]
  exact ⟨_, List.getElem_mem hk, by simp [hx]⟩
theorem allR_take {l : List Int} {k : Nat} (h : allR (l.take k) = true) (hk : l.length ≤ k) : allR l = true := by rwa [List.take_of_length_le hk] at h
set_option maxHeartbeats 400000 in
theorem fxr_any (A : Option Addr) (l : List Int) (c : Nat) (w : World) (hr : Row eI w A l) (h1 : l.length ≤ c) (h2 : c ≤ 9223372036854775807) :
    Calls Try.prog 41 #[.slice A l.length c] w fun e w' => e = .returned (.bool (allR l)) ∧ w = w' := by
  have HRow := Lib.hid hr
  clear hr
  go_enter Try.func41, Try.ntmps41
  go_wp2_with (fail)
  go_loop [7] (fun i => ∃ k : Nat, k ≤ l.length ∧ i = .int .i64 k ∧ Hid (allR (l.take k) = true)) (fun i => l.length - (intOf i).toNat)
  case atStart => exact ⟨0, Nat.zero_le _, rfl, by simp [Hid, allR]⟩
  case round =>
    obtain ⟨k, hk, rfl, HK⟩ := hrel
    by_cases hlt : k < l.length
    · obtain ⟨b, off, rfl, hc⟩ := HRow.out.at_ hlt
      unfold eI at hc
      have HL := Lib.hid (allR_snoc HK.out hlt)
      have HN := Lib.hid (allR_bad (l := l) hlt)
      have HY := Lib.hid (fun h h' => HL.out (rightB_yes h h'))
      have HZ := Lib.hid (fun h => HN.out (rightB_no h))
      clear HL HN
      generalize l[k] = x at *
      by_cases hx : x < -1073741824
      · have t1 : decide (x < -1073741824) = true := by simpa using hx
        have HB := Lib.hid (HZ.out (.inl hx))
        clear HY HZ hx
        go_wp2_with (fail)
        go_ret
        exact ⟨ret_bool HB.out.symm, rfl⟩
      · have t1 : decide (x < -1073741824) = false := by simpa using hx
        by_cases hx2 : 1073741824 < x
        · have t2 : decide (1073741824 < x) = true := by simpa using hx2
          have HB := Lib.hid (HZ.out (.inr hx2))
          clear HY HZ hx hx2
          go_wp2_with (fail)
          go_ret
          exact ⟨ret_bool HB.out.symm, rfl⟩
        · have t2 : decide (1073741824 < x) = false := by simpa using hx2
          have HB := Lib.hid (HY.out (by omega) (by omega))
          clear HY HZ hx hx2
          go_wp2_with (fail)
          go_round
          case rel => exact ⟨k + 1, by omega, by go_num, HB⟩
          case measure => simp [intOf]; omega
    · have HB := Lib.hid (allR_take HK.out (by omega))
      go_wp2_with (fail)
      go_ret
      exact ⟨ret_bool HB.out.symm, rfl⟩
set_option maxHeartbeats 400000 in
theorem fxd_any (a : Int) (w : World) : Calls Try.prog 42 #[.int .i64 a] w fun e w' => e = .returned (.bool (rightB a)) ∧ w = w' := by
  by_cases h : -1073741824 ≤ a
  · have t1 : decide (-1073741824 ≤ a) = true := by simpa using h
    by_cases h2 : a ≤ 1073741824
    · have t2 : decide (a ≤ 1073741824) = true := by simpa using h2
      have HB := Lib.hid (rightB_yes h h2)
      clear h h2
      go_enter Try.func42, Try.ntmps42
      go_wp2_with (fail)
      go_ret
      exact ⟨ret_bool HB.out.symm, rfl⟩
    · have t2 : decide (a ≤ 1073741824) = false := by simpa using h2
      have HB := Lib.hid (rightB_no (a := a) (by omega))
      clear h h2
      go_enter Try.func42, Try.ntmps42
      go_wp2_with (fail)
      go_ret
      exact ⟨ret_bool HB.out.symm, rfl⟩
  · have t1 : decide (-1073741824 ≤ a) = false := by simpa using h
    have HB := Lib.hid (rightB_no (a := a) (by omega))
    clear h
    go_enter Try.func42, Try.ntmps42
    go_wp2_with (fail)
    go_ret
    exact ⟨ret_bool HB.out.symm, rfl⟩
structure Mp where
  a : Int
  b : Int
  c : Int
  d : Int
  e : Int
  f : Int
deriving DecidableEq
def Mp.v (m : Mp) : Value := .agg #[.int .i64 m.a, .int .i64 m.b, .int .i64 m.c, .int .i64 m.d, .int .i64 m.e, .int .i64 m.f]
def Mp.cs (m : Mp) : List Value := [.int .i64 m.a, .int .i64 m.b, .int .i64 m.c, .int .i64 m.d, .int .i64 m.e, .int .i64 m.f]
def Mp.l (m : Mp) : List Int := [m.a, m.b, m.c, m.d, m.e, m.f]
def Mp.o : Mp := ⟨0, 0, 0, 0, 0, 0⟩
def Mp.right (m : Mp) : Bool := allR m.l
theorem Blk.c6 {w : World} {g : Nat} {p q r s t u : Value} (h : Blk w g [p, q, r, s, t, u]) : (w.cell? ⟨g, 0, none⟩ = some p ∧ w.cell? ⟨g, 1, none⟩ = some q ∧ w.cell? ⟨g, 2, none⟩ = some r ∧ w.cell? ⟨g, 3, none⟩ = some s ∧ w.cell? ⟨g, 4, none⟩ = some t ∧ w.cell? ⟨g, 5, none⟩ = some u) ∧
    (w.frozen? ⟨g, 0, none⟩ = false ∧ w.frozen? ⟨g, 1, none⟩ = false ∧ w.frozen? ⟨g, 2, none⟩ = false ∧ w.frozen? ⟨g, 3, none⟩ = false ∧ w.frozen? ⟨g, 4, none⟩ = false ∧ w.frozen? ⟨g, 5, none⟩ = false) ∧ g < w.heap.size :=
  ⟨⟨h.cell 0, h.cell 1, h.cell 2, h.cell 3, h.cell 4, h.cell 5⟩, ⟨h.free 0, h.free 1, h.free 2, h.free 3, h.free 4, h.free 5⟩, h.inside⟩
theorem Blk.put6 {w : World} {g : Nat} {p q r s t u : Value} (h : Blk w g [p, q, r, s, t, u]) (p' q' r' s' t' u' : Value) : Blk ((((((w.setCell ⟨g, 0, none⟩ p').setCell ⟨g, 1, none⟩ q').setCell ⟨g, 2, none⟩ r').setCell ⟨g, 3, none⟩ s').setCell ⟨g, 4, none⟩ t').setCell ⟨g, 5, none⟩ u') g [p', q', r', s', t', u'] :=
  (((((h.set 0 p').set 1 q').set 2 r').set 3 s').set 4 t').set 5 u'
theorem below6 {w W : World} {B g : Nat} (h : Below B w W) (hg : B ≤ g) (p' q' r' s' t' u' : Value) : Below B w ((((((W.setCell ⟨g, 0, none⟩ p').setCell ⟨g, 1, none⟩ q').setCell ⟨g, 2, none⟩ r').setCell ⟨g, 3, none⟩ s').setCell ⟨g, 4, none⟩ t').setCell ⟨g, 5, none⟩ u') :=
  below_set (below_set (below_set (below_set (below_set (below_set h hg) hg) hg) hg) hg) hg
theorem mp_right (m : Mp) (w : World) : Calls Try.prog 23 #[m.v] w fun e w' => e = .returned (.bool m.right) ∧ Below w.heap.size w w' := by
  have HR : Hid (allR [m.a, m.b, m.c, m.d, m.e, m.f] = m.right) := rfl
  generalize m.right = y at *
  obtain ⟨a, b, c, d, e, f⟩ := m
  unfold Mp.v
  simp only at HR ⊢
  go_enter Try.func23, Try.ntmps23
  go_wp2_with (fail)
  refine (fxr_any _ [a, b, c, d, e, f] 6 _ (row_new' _ [a, b, c, d, e, f] 2 (by simp)) (Nat.le_refl 6) (by decide)).mono ?_
  rw [HR.out]
  rintro e w' ⟨rfl, rfl⟩
  go_wp2_with (fail)
  go_ret
  exact ⟨rfl, ((Below.refl _ _).alloc (Nat.le_refl _) _).alloc (by simp) _⟩
theorem mp_scale (x y : Int) (w : World) : Calls Try.prog 39 #[.int .i64 x, .int .i64 y] w fun e w' => e = .returned (Mp.v ⟨x, 0, 0, y, 0, 0⟩) ∧ Below w.heap.size w w' := by
  go_enter Try.func39, Try.ntmps39
  go_wp2_with (fail)
  exact blk_ret rfl rfl (blk_at _ _ (by simp) (Mp.cs ⟨x, 0, 0, y, 0, 0⟩) _) Try.underlying23 rfl (by kernel_rfl) ⟨rfl, (Below.refl _ _).alloc (Nat.le_refl _) _⟩
def Mp.one : Mp := ⟨65536, 0, 0, 65536, 0, 0⟩
theorem mp_one (w : World) : Calls Try.prog 21 #[] w fun e w' => e = .returned Mp.one.v ∧ Below w.heap.size w w' := by
  go_enter Try.func21, Try.ntmps21
  go_wp2_with (fail)
  refine (mp_scale 65536 65536 _).mono ?_
  rintro e w1 ⟨rfl, hb⟩
  have br : Blk w1 w.heap.size Mp.o.cs := (blk_new w Mp.o.cs _).below hb (by simp)
  have HB : Hid (Below w.heap.size w w1) := ((Below.refl _ _).alloc (Nat.le_refl _) _).trans (hb.mono (by simp))
  have HR := Lib.hid br
  unfold Mp.v
  simp only
  obtain ⟨⟨c0, c1, c2, c3, c4, c5⟩, ⟨f0, f1, f2, f3, f4, f5⟩, -⟩ := Blk.c6 br
  clear hb br
  go_wp2_with (fail)
  exact blk_ret rfl rfl (Blk.put6 HR.out _ _ _ _ _ _) Try.underlying23 rfl (by kernel_rfl) ⟨rfl, below6 HB.out (Nat.le_refl _) _ _ _ _ _ _⟩
theorem Blk.at6 {w : World} {g : Nat} {l : List Int} (h : Blk w g (l.map eI)) {k : Nat} (hk : k < l.length) : w.cell? ⟨g, k, none⟩ = some (.int .i64 l[k]) := by
  rw [h.cell, List.getElem?_map, List.getElem?_eq_getElem hk]
  rfl
set_option maxHeartbeats 1000000 in
theorem mp_dright (m : Mp) (w : World) : Calls Try.prog 25 #[m.v] w fun e w' => e = .returned (.bool m.right) ∧ Below w.heap.size w w' := by
  obtain ⟨a, b, c, d, e, f⟩ := m
  unfold Mp.v Mp.right Mp.l
  simp only
  obtain ⟨l, hl⟩ : ∃ l, [a, b, c, d, e, f] = l := ⟨_, rfl⟩
  have HL : Hid (l.length = 6) := by rw [← hl]; rfl
  have HM : Hid (∀ T, Blk (w.alloc (.cells #[.int .i64 a, .int .i64 b, .int .i64 c, .int .i64 d, .int .i64 e, .int .i64 f] T)) w.heap.size (l.map eI)) := by
    intro T
    rw [← hl]
    exact blk_new w [.int .i64 a, .int .i64 b, .int .i64 c, .int .i64 d, .int .i64 e, .int .i64 f] T
  rw [hl]
  clear hl
  go_enter Try.func25, Try.ntmps25
  go_wp2_with (fail)
  have hB := Lib.hid (HM.out 40)
  have HB : Hid (Below w.heap.size w (w.alloc (.cells #[.int .i64 a, .int .i64 b, .int .i64 c, .int .i64 d, .int .i64 e, .int .i64 f] 40))) := (Below.refl _ _).alloc (Nat.le_refl _) _
  generalize w.alloc (.cells #[.int .i64 a, .int .i64 b, .int .i64 c, .int .i64 d, .int .i64 e, .int .i64 f] 40) = W at *
  clear HM
  go_loop [3] (fun i => ∃ k : Nat, k ≤ 6 ∧ i = .int .i64 k ∧ Hid (allR (l.take k) = true)) (fun i => 6 - (intOf i).toNat)
  case atStart => exact ⟨0, Nat.zero_le _, rfl, by simp [Hid, allR]⟩
  case round =>
    obtain ⟨k, hk, rfl, HK⟩ := hrel
    by_cases hlt : k < 6
    · have hkl : k < l.length := by rw [HL.out]; exact hlt
      have hc := hB.out.at6 hkl
      have hin := hB.out.inside
      have H1 := Lib.hid (allR_snoc HK.out hkl)
      have HN := Lib.hid (allR_bad (l := l) hkl)
      generalize l[k] = x at *
      clear HK
      go_wp2_with (fail)
      refine (fxd_any x W).mono ?_
      cases hx : rightB x with
      | true =>
        rw [hx] at H1
        have HB2 := Lib.hid (H1.out rfl)
        clear H1 HN hx
        rintro e w' ⟨rfl, rfl⟩
        go_wp2_with (fail)
        go_round
        case rel => exact ⟨k + 1, by omega, by go_num, HB2⟩
        case measure => simp [intOf]; omega
      | false =>
        rw [hx] at HN
        have HB2 := Lib.hid (HN.out rfl)
        clear H1 HN hx
        rintro e w' ⟨rfl, rfl⟩
        go_wp2_with (fail)
        go_ret
        exact ⟨ret_bool HB2.out.symm, HB.out⟩
    · have hk6 : k = 6 := by omega
      subst hk6
      have HB2 := Lib.hid (allR_take HK.out (by rw [HL.out]; exact Nat.le_refl 6))
      go_wp2_with (fail)
      go_ret
      exact ⟨ret_bool HB2.out.symm, HB.out⟩
end Go.Proofs.Ytfmlecjobpdbbaa
