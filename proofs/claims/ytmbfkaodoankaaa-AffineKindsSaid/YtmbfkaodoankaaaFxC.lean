/-
  Layer 5: sums of products, rounded once.
-/
import Derived.Test.YtmbfkaodoankaaaFxB
namespace Go.Proofs.Ytmbfkaodoankaaa
open Go.RowKit

def dots : List Int → Int
  | a :: b :: r => a * b + dots r
  | [a] => a * 65536
  | [] => 0
/-- what Dot tells -/
def dotV (l : List Int) : Int := if l.length ≤ 8 ∧ allR l = true ∧ rightB (rnd (dots l) 65536) = true then rnd (dots l) 65536 else 0
def dotB (l : List Int) : Bool := decide (l.length ≤ 8) && (allR l && rightB (rnd (dots l) 65536))
theorem dot_big {l : List Int} (h : 8 < l.length) : dotV l = 0 ∧ dotB l = false := by
  unfold dotV dotB
  rw [if_neg (by omega), decide_eq_false (by omega)]
  exact ⟨rfl, rfl⟩
theorem dot_wrong {l : List Int} (h : allR l = false) : dotV l = 0 ∧ dotB l = false := by
  unfold dotV dotB
  rw [if_neg (by simp [h]), h]
  simp
theorem dot_over {l : List Int} (h : rightB (rnd (dots l) 65536) = false) : dotV l = 0 ∧ dotB l = false := by
  unfold dotV dotB
  rw [if_neg (by simp [h]), h]
  simp
theorem dot_yes {l : List Int} (h1 : l.length ≤ 8) (h2 : allR l = true) (h : rightB (rnd (dots l) 65536) = true) : dotV l = rnd (dots l) 65536 ∧ dotB l = true := by
  unfold dotV dotB
  rw [if_pos ⟨h1, h2, h⟩, h, h2, decide_eq_true h1]
  exact ⟨rfl, rfl⟩
theorem allR_cons {a : Int} {l : List Int} (h : allR (a :: l) = true) : (-1073741824 ≤ a ∧ a ≤ 1073741824) ∧ allR l = true := by
  unfold allR at *
  rw [List.all_cons, Bool.and_eq_true] at h
  exact ⟨rightB_of h.1, h.2⟩
/-- two by two -/
theorem dots_bd : ∀ (n : Nat) (l : List Int), l.length ≤ 2 * n → allR l = true → -(1152921504606846976 * (n : Int)) ≤ dots l ∧ dots l ≤ 1152921504606846976 * (n : Int)
  | 0, l, h, _ => by
    have : l = [] := List.eq_nil_of_length_eq_zero (by omega)
    subst this
    simp [dots]
  | n + 1, [], _, _ => by simp [dots]; omega
  | n + 1, [a], _, hr => by
    obtain ⟨h, _⟩ := allR_cons hr
    simp [dots]
    omega
  | n + 1, a :: b :: r, h, hr => by
    obtain ⟨h1, hr⟩ := allR_cons hr
    obtain ⟨h2, hr⟩ := allR_cons hr
    have := dots_bd n r (by simp at h; omega) hr
    have := prod_bd h1.1 h1.2 h2.1 h2.2
    simp only [dots]
    push_cast
    omega
theorem allR_drop {l : List Int} (h : allR l = true) (k : Nat) : allR (l.drop k) = true := by
  unfold allR at *
  rw [List.all_eq_true] at *
  exact fun x hx => h x (List.mem_of_mem_drop hx)
theorem dots_two {l : List Int} {k : Nat} (h : k + 1 < l.length) : dots (l.drop k) = l[k] * l[k + 1] + dots (l.drop (k + 2)) := by
  rw [List.drop_eq_getElem_cons (show k < l.length by omega), List.drop_eq_getElem_cons h]
  rfl
theorem dots_last {l : List Int} {k : Nat} (h : k + 1 = l.length) : dots (l.drop k) = l[k] * 65536 := by
  rw [List.drop_eq_getElem_cons (show k < l.length by omega), List.drop_of_length_le (by omega)]
  rfl
theorem dots_none {l : List Int} {k : Nat} (h : l.length ≤ k) : dots (l.drop k) = 0 := by
  rw [List.drop_of_length_le h]
  rfl
/-- the sum of those ahead -/
theorem dots_part {l : List Int} {k j : Nat} (hk : k = 2 * j) (h8 : l.length ≤ 8) (hkl : k ≤ l.length) (hr : allR l = true) :
    -4611686018427387904 ≤ dots l - dots (l.drop k) ∧ dots l - dots (l.drop k) ≤ 4611686018427387904 ∧ -4611686018427387904 ≤ dots l ∧ dots l ≤ 4611686018427387904 := by
  have h1 : ∀ (j : Nat) (l : List Int), 2 * j ≤ l.length → allR l = true → -(1152921504606846976 * (j : Int)) ≤ dots l - dots (l.drop (2 * j)) ∧ dots l - dots (l.drop (2 * j)) ≤ 1152921504606846976 * (j : Int) := by
    intro j
    induction j with
    | zero => intro l _ _; simp
    | succ j ih =>
      intro l hl hr
      match l, hl, hr with
      | [], hl, _ => simp at hl
      | [a], hl, _ => simp at hl; omega
      | a :: b :: r, hl, hr =>
        obtain ⟨h1, hr⟩ := allR_cons hr
        obtain ⟨h2, hr⟩ := allR_cons hr
        have := ih r (by simp at hl; omega) hr
        have := prod_bd h1.1 h1.2 h2.1 h2.2
        have e : (a :: b :: r).drop (2 * (j + 1)) = r.drop (2 * j) := by rw [show 2 * (j + 1) = 2 * j + 2 by omega]; rfl
        rw [e]
        simp only [dots]
        push_cast
        omega
  have h2 := h1 j l (by omega) hr
  have h3 := dots_bd 4 l (by omega) hr
  subst hk
  have : (j : Int) ≤ 4 := by omega
  omega

/-- where the sum stands: m is left, P stands for those ahead -/
def Half (l m : List Int) (P : Int) : Prop := ∃ j, m = l.drop (2 * j) ∧ 2 * j ≤ l.length ∧ P = dots l - dots m
theorem Half.start (l : List Int) : Half l l 0 := ⟨0, by simp, by omega, by omega⟩
theorem Half.two {l m : List Int} {P a b : Int} {r : List Int} (h : Half l m P) (hm : m = a :: b :: r) (h8 : l.length ≤ 8) (hr : allR l = true) :
    Half l r (P + a * b) ∧ (-1152921504606846976 ≤ a * b ∧ a * b ≤ 1152921504606846976) ∧ (-4611686018427387904 ≤ P ∧ P ≤ 4611686018427387904) ∧ (-4611686018427387904 ≤ P + a * b ∧ P + a * b ≤ 4611686018427387904) := by
  obtain ⟨j, e, hj, rfl⟩ := h
  subst hm
  have hl : l.length - 2 * j = r.length + 2 := by
    have := congrArg List.length e
    rw [List.length_drop] at this
    simp at this
    omega
  have hd : l.drop (2 * (j + 1)) = r := by
    rw [show 2 * (j + 1) = 2 * j + 2 by omega, ← List.drop_drop, ← e]
    rfl
  have hrr := allR_drop hr (2 * j)
  rw [← e] at hrr
  obtain ⟨h1, hrr⟩ := allR_cons hrr
  obtain ⟨h2, hrr⟩ := allR_cons hrr
  have p1 := dots_part (k := 2 * j) rfl h8 hj hr
  have p2 := dots_part (k := 2 * (j + 1)) rfl h8 (by omega) hr
  rw [← e] at p1
  rw [hd] at p2
  have p3 := prod_bd h1.1 h1.2 h2.1 h2.2
  have p4 : dots (a :: b :: r) = a * b + dots r := rfl
  refine ⟨⟨j + 1, hd.symm, by omega, by omega⟩, p3, by omega, by omega⟩
theorem Half.one {l m : List Int} {P a : Int} (h : Half l m P) (hm : m = [a]) (h8 : l.length ≤ 8) (hr : allR l = true) :
    P + a * 65536 = dots l ∧ (-1073741824 ≤ a ∧ a ≤ 1073741824) ∧ (-4611686018427387904 ≤ P ∧ P ≤ 4611686018427387904) ∧ (-4611686018427387904 ≤ P + a * 65536 ∧ P + a * 65536 ≤ 4611686018427387904) := by
  obtain ⟨j, e, hj, rfl⟩ := h
  subst hm
  have hrr := allR_drop hr (2 * j)
  rw [← e] at hrr
  obtain ⟨h1, hrr⟩ := allR_cons hrr
  have p1 := dots_part (k := 2 * j) rfl h8 hj hr
  rw [← e] at p1
  have p4 : dots [a] = a * 65536 := rfl
  refine ⟨by omega, h1, by omega, by omega⟩
theorem Half.none {l m : List Int} {P : Int} (h : Half l m P) (hm : m = []) (h8 : l.length ≤ 8) (hr : allR l = true) :
    P = dots l ∧ (-4611686018427387904 ≤ P ∧ P ≤ 4611686018427387904) := by
  obtain ⟨j, e, hj, rfl⟩ := h
  subst hm
  have p1 := dots_part (k := 2 * j) rfl h8 hj hr
  have p4 : dots ([] : List Int) = 0 := rfl
  omega

set_option maxRecDepth 100000 in
set_option maxHeartbeats 1000000 in
theorem dot_any (A : Option Addr) (l : List Int) (c : Nat) (w : World) (hr : Row eI w A l) (h1 : l.length ≤ c) (h2 : c ≤ 9223372036854775807) :
    Calls Try.prog 26 #[.slice A l.length c] w fun e w' => e = .returned (.tuple #[.int .i64 (dotV l), .bool (dotB l)]) ∧ Below w.heap.size w w' := by
  have HR := Lib.hid (right_any A l c w hr h1 h2)
  have HRow := Lib.hid hr
  clear hr
  by_cases h8 : 8 < l.length
  · have t : decide (8 < (l.length : Int)) = true := by simp; omega
    have HF := Lib.hid (dot_big h8)
    clear h8
    go_enter Try.func26, Try.ntmps26
    go_wp2_with (fail)
    go_ret2
    exact ⟨ret_ib HF.out.1.symm HF.out.2.symm, Below.refl _ _⟩
  have t : decide (8 < (l.length : Int)) = false := by simp; omega
  by_cases ha : allR l = true
  · rw [ha] at HR
    have HA := Lib.hid ha
    have H8 : Hid (l.length ≤ 8) := by show _ ≤ _; omega
    clear ha h8
    go_enter Try.func26, Try.ntmps26
    go_wp2_with (fail)
    refine HR.out.mono ?_
    rintro e w' ⟨rfl, rfl⟩
    go_wp2_with (fail)
    go_loopw [0, 4] (fun x s wr => ∃ (m : List Int) (n : Nat) (P : Int) (A' : Option Addr) (c' : Nat), x = .slice A' n c' ∧ n ≤ c' ∧ c' ≤ 9223372036854775807 ∧ s = .int .i64 P ∧ Hid (m.length = n) ∧ Hid (Row eI w A' m) ∧ Hid (Half l m P) ∧ Hid (Drew w wr))
      (fun x _ _ => match x with | .slice _ n _ => n | _ => 0)
    case atStart => exact ⟨l, l.length, 0, A, c, rfl, h1, h2, rfl, rfl, HRow, Half.start l, Drew.refl w⟩
    case round =>
      obtain ⟨m, n, P, A', c', rfl, h1', h2', rfl, HN, HRow', HH, hw⟩ := hrel
      have HFIN : Hid (rightB (rnd (dots l) 65536) = true → dotV l = rnd (dots l) 65536 ∧ dotB l = true) := fun h => dot_yes H8.out HA.out h
      have HFIN2 := Lib.hid (dot_over (l := l))
      obtain ⟨m0, rfl⟩ := hw.out
      match m, HN, HRow', HH with
      | [], HN, HRow', HH =>
        obtain ⟨hP, hP1, hP2⟩ := HH.out.none rfl H8.out HA.out
        obtain rfl : 0 = n := HN.out
        clear HN
        have HD := Lib.hid (fun w => round_any P 65536 w (by omega) (by omega) (by omega) (by omega))
        rw [← hP] at HFIN HFIN2
        clear hP
        go_wp2_with (fail)
        refine (HD.out _).mono ?_
        rintro e w' ⟨rfl, m1, rfl⟩
        obtain ⟨X, hX⟩ : ∃ X, rnd (P) 65536 = X := ⟨_, rfl⟩
        rw [hX] at HFIN HFIN2 ⊢
        clear hX HD
        go_wp2_with (fail)
        refine (right_any _ [X] 1 _ (row_new _ [X] 2) (Nat.le_refl 1) (by decide)).mono ?_
        rintro e w' ⟨rfl, rfl⟩
        have hx1 : allR [X] = rightB X := by simp [allR]
        rw [hx1]
        clear hx1
        cases hx : rightB X with
        | true =>
          rw [hx] at HFIN
          have HF := Lib.hid (HFIN.out rfl)
          clear HFIN HFIN2 hx
          go_wp2_with (fail)
          go_ret2
          exact ⟨ret_ib HF.out.1.symm HF.out.2.symm, ((Below.drewN' (Below.refl _ _) _).alloc (Nat.le_refl _) _)⟩
        | false =>
          rw [hx] at HFIN2
          have HF := Lib.hid (HFIN2.out rfl)
          clear HFIN HFIN2 hx
          go_wp2_with (fail)
          go_ret2
          exact ⟨ret_ib HF.out.1.symm HF.out.2.symm, ((Below.drewN' (Below.refl _ _) _).alloc (Nat.le_refl _) _)⟩
      | [a], HN, HRow', HH =>
        obtain ⟨hP, ⟨p1, p2⟩, ⟨p3, p4⟩, p5, p6⟩ := HH.out.one rfl H8.out HA.out
        obtain rfl : 1 = n := HN.out
        obtain ⟨g, off, rfl, hc0⟩ := HRow'.out.at_ (k := 0) (by simp)
        have c0 : w.cell? ⟨g, off, none⟩ = some (.int .i64 a) := hc0
        clear HN hc0
        have q1 : wrap64 (a * 65536) = a * 65536 := IntWalk.wrap64_in _ (by omega)
        have q2 : wrap64 (P + a * 65536) = P + a * 65536 := IntWalk.wrap64_in _ (by omega)
        have HD := Lib.hid (fun w => round_any (P + a * 65536) 65536 w (by omega) (by omega) (by omega) (by omega))
        rw [← hP] at HFIN HFIN2
        clear hP
        go_wp2_with (fail)
        refine (HD.out _).mono ?_
        rintro e w' ⟨rfl, m1, rfl⟩
        obtain ⟨X, hX⟩ : ∃ X, rnd (P + a * 65536) 65536 = X := ⟨_, rfl⟩
        rw [hX] at HFIN HFIN2 ⊢
        clear hX HD
        go_wp2_with (fail)
        refine (right_any _ [X] 1 _ (row_new _ [X] 2) (Nat.le_refl 1) (by decide)).mono ?_
        rintro e w' ⟨rfl, rfl⟩
        have hx1 : allR [X] = rightB X := by simp [allR]
        rw [hx1]
        clear hx1
        cases hx : rightB X with
        | true =>
          rw [hx] at HFIN
          have HF := Lib.hid (HFIN.out rfl)
          clear HFIN HFIN2 hx
          go_wp2_with (fail)
          go_ret2
          exact ⟨ret_ib HF.out.1.symm HF.out.2.symm, ((Below.drewN' (Below.refl _ _) _).alloc (Nat.le_refl _) _)⟩
        | false =>
          rw [hx] at HFIN2
          have HF := Lib.hid (HFIN2.out rfl)
          clear HFIN HFIN2 hx
          go_wp2_with (fail)
          go_ret2
          exact ⟨ret_ib HF.out.1.symm HF.out.2.symm, ((Below.drewN' (Below.refl _ _) _).alloc (Nat.le_refl _) _)⟩
      | a :: b :: r, HN, HRow', HH =>
        obtain ⟨H2, ⟨p1, p2⟩, ⟨p3, p4⟩, p5, p6⟩ := HH.out.two rfl H8.out HA.out
        have HH2 := Lib.hid H2
        have hn : r.length + 2 = n := HN.out
        obtain ⟨g, off, rfl, hc0⟩ := HRow'.out.at_ (k := 0) (by simp)
        obtain ⟨g', off', e, hc1⟩ := HRow'.out.at_ (k := 1) (by simp)
        simp only [Option.some.injEq, Addr.mk.injEq, and_true] at e
        obtain ⟨rfl, rfl⟩ := e
        have c0 : w.cell? ⟨g, off, none⟩ = some (.int .i64 a) := hc0
        have c1 : w.cell? ⟨g, off + 1, none⟩ = some (.int .i64 b) := hc1
        have HROW2 := Lib.hid (HRow'.out.drop 2)
        obtain ⟨M, hM⟩ : ∃ M, a * b = M := ⟨_, rfl⟩
        rw [hM] at p1 p2 p5 p6 HH2
        have q1 : wrap64 M = M := IntWalk.wrap64_in _ (by omega)
        have q2 : wrap64 (P + M) = P + M := IntWalk.wrap64_in _ (by omega)
        have q3 : IntKind.i64.wrap M = M := IntWalk.i64_in _ (by omega)
        have q4 : IntKind.i64.wrap (P + M) = P + M := IntWalk.i64_in _ (by omega)
        have hn2 : (2 : Int) ≤ (n : Int) := by omega
        have hn1 : (1 : Int) < (n : Int) := by omega
        have hn0 : 0 < n := by omega
        have HNR : Hid (r.length = n - 2) := by show _ = _; omega
        clear hc0 hc1 HN HH H2 hn HRow'
        by_cases hcc : c' = 2
        · obtain rfl : n = 2 := by omega
          subst hcc
          have hr0 : r = [] := List.eq_nil_of_length_eq_zero (by have := HNR.out; omega)
          subst hr0
          go_wp2_with (fail)
          go_quiet (fail)
          go_wp2_with (fail)
          go_roundw
          case rel => exact ⟨[], 0, _, some ⟨g, off, none⟩, 0, rfl, by omega, by omega, rfl, rfl, Row.none_ rfl, HH2, (Drew.refl w).more _⟩
          case measure => simp
        · go_wp2_with (fail)
          go_quiet (fail)
          go_wp2_with (fail)
          go_roundw
          case rel => exact ⟨r, n - 2, _, some ⟨g, off + 2, none⟩, c' - 2, rfl, by omega, by omega, rfl, HNR, HROW2, HH2, (Drew.refl w).more _⟩
          case measure => simp; omega
  · have ha : allR l = false := by simpa using ha
    rw [ha] at HR
    have HF := Lib.hid (dot_wrong ha)
    clear ha h8
    go_enter Try.func26, Try.ntmps26
    go_wp2_with (fail)
    refine HR.out.mono ?_
    rintro e w' ⟨rfl, rfl⟩
    go_wp2_with (fail)
    go_ret2
    exact ⟨ret_ib HF.out.1.symm HF.out.2.symm, Below.refl _ _⟩

end Go.Proofs.Ytmbfkaodoankaaa
