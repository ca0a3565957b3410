/-
  Layer 6: plain facts of RectTogether: the parts about a hole and the hole, joined, are the whole; areas add up.
-/
import Derived.Test.YtjnhjhbhodhfgaaRxJ
namespace Go.Proofs.Ytjnhjhbhodhfgaa
open Go.RowKit

def pos (x : Int) : Int := if x ≤ 0 then 0 else x
def ov (lo hi a c : Int) : Int := pos (mn hi c - mx lo a)
theorem pos_nn (x : Int) : 0 ≤ pos x := by unfold pos; split <;> omega
theorem ov_nn (lo hi a c : Int) : 0 ≤ ov lo hi a c := pos_nn _
theorem ov_split {lo m hi : Int} (h1 : lo ≤ m) (h2 : m ≤ hi) (a c : Int) : ov lo hi a c = ov lo m a c + ov m hi a c := by
  unfold ov pos mn mx
  repeat' split
  all_goals omega
theorem ov_none {lo hi : Int} (h : hi ≤ lo) (a c : Int) : ov lo hi a c = 0 := by
  unfold ov pos mn mx
  repeat' split
  all_goals omega
theorem area_pos (r : Bx) : r.area = pos (r.c - r.a) * pos (r.d - r.b) := by
  cases h : r.emp with
  | true =>
    rw [area_emp h]
    rcases Bx.emp_yes h with h | h
    · rw [show pos (r.c - r.a) = 0 by unfold pos; rw [if_pos (by omega)], Int.zero_mul]
    · rw [show pos (r.d - r.b) = 0 by unfold pos; rw [if_pos (by omega)], Int.mul_zero]
  | false =>
    have := Bx.emp_no h
    rw [area_ne h, show pos (r.c - r.a) = r.c - r.a by unfold pos; rw [if_neg (by omega)], show pos (r.d - r.b) = r.d - r.b by unfold pos; rw [if_neg (by omega)]]
theorem area_nrm (r : Bx) : r.nrm.area = r.area := by unfold Bx.area; rw [nrm_nrm]
def ar (p t : Bx) : Int := ov p.a p.c t.a t.c * ov p.b p.d t.b t.d
theorem ar_cut (p t : Bx) : (p.cut [t]).area = ar p t := by
  show ((p.cut1 t).nrm).area = _
  rw [area_nrm, area_pos]
  rfl
theorem ar_cut2 (r s t : Bx) : (r.cut [s, t]).area = ar (r.cut1 s) t := by
  show (((r.cut1 s).cut1 t).nrm).area = _
  rw [area_nrm, area_pos]
  rfl
theorem ar_nn (p t : Bx) : 0 ≤ ar p t := Int.mul_nonneg (ov_nn _ _ _ _) (ov_nn _ _ _ _)
theorem ar_emp {p : Bx} (h : p.emp = true) (t : Bx) : ar p t = 0 := by
  unfold ar
  rcases Bx.emp_yes h with h | h
  · rw [ov_none h, Int.zero_mul]
  · rw [ov_none h, Int.mul_zero]
def arS (l : List Bx) (t : Bx) : Int := (l.map fun p => ar p t).sum
theorem arS_cons (p : Bx) (l : List Bx) (t : Bx) : arS (p :: l) t = ar p t + arS l t := by unfold arS; rw [List.map_cons, List.sum_cons]
theorem arS_nn : ∀ (l : List Bx) (t : Bx), 0 ≤ arS l t
  | [], _ => by simp [arS]
  | p :: l, t => by rw [arS_cons]; have := ar_nn p t; have := arS_nn l t; omega
theorem arS_filter : ∀ (l : List Bx) (t : Bx), arS (l.filter Bx.full) t = arS l t
  | [], _ => rfl
  | p :: l, t => by
    have ih := arS_filter l t
    cases h : p.emp with
    | true =>
      rw [List.filter_cons_of_neg (by unfold Bx.full; rw [h]; decide), ih, arS_cons, ar_emp h, Int.zero_add]
    | false =>
      rw [List.filter_cons_of_pos (by unfold Bx.full; rw [h]; decide), arS_cons, arS_cons, ih]
theorem arS_append : ∀ (l m : List Bx) (t : Bx), arS (l ++ m) t = arS l t + arS m t
  | [], m, t => by simp [arS]
  | p :: l, m, t => by rw [List.cons_append, arS_cons, arS_cons, arS_append l m t]; omega
theorem arS_take (l : List Bx) (t : Bx) (k : Nat) : arS (l.take k) t ≤ arS l t := by
  have h := arS_append (l.take k) (l.drop k) t
  rw [List.take_append_drop] at h
  have := arS_nn (l.drop k) t
  omega
/-- what both have lies in the first -/
theorem hole_in {r s : Bx} (h : r.cut [s] ≠ Bx.o) : (r.cut1 s).emp = false ∧ r.cut [s] = r.cut1 s ∧ (r.a ≤ (r.cut1 s).a ∧ (r.cut1 s).a < (r.cut1 s).c ∧ (r.cut1 s).c ≤ r.c) ∧ (r.b ≤ (r.cut1 s).b ∧ (r.cut1 s).b < (r.cut1 s).d ∧ (r.cut1 s).d ≤ r.d) := by
  have he : (r.cut1 s).emp = false := by
    cases hc : (r.cut1 s).emp with
    | false => rfl
    | true => exact absurd (nrm_tt hc) h
  have e : r.cut [s] = r.cut1 s := nrm_ff he
  have hn := Bx.emp_no he
  have g1 := mx_facts r.a s.a; have g2 := mx_facts r.b s.b; have g3 := mn_facts r.c s.c; have g4 := mn_facts r.d s.d
  exact ⟨he, e, ⟨g1.1, hn.1, g3.1⟩, ⟨g2.1, hn.2, g4.1⟩⟩
theorem less_sum (r s t : Bx) : arS (r.less s) t + (r.cut [s, t]).area = (r.cut [t]).area := by
  rw [ar_cut2, ar_cut]
  unfold Bx.less
  cases hr : r.emp with
  | true =>
    rw [if_pos rfl, ar_emp (cut1_emp s hr), ar_emp hr]
    rfl
  | false =>
    rw [if_neg (by decide)]
    by_cases hq : r.cut [s] = Bx.o
    · have he : (r.cut1 s).emp = true := by
        have h2 : (r.cut1 s).nrm = Bx.o := hq
        rw [← nrm_emp, h2]
        exact emp_o
      rw [if_pos hq, ar_emp he, arS_cons]
      simp [arS]
    · obtain ⟨he, e, ⟨x1, x2, x3⟩, y1, y2, y3⟩ := hole_in hq
      rw [if_neg hq, arS_filter, e]
      generalize r.cut1 s = q at *
      unfold Bx.pts
      rw [arS_cons, arS_cons, arS_cons, arS_cons]
      have hX := ov_split x1 (show q.a ≤ r.c by omega) t.a t.c
      have hX2 := ov_split (show q.a ≤ q.c by omega) x3 t.a t.c
      have hY := ov_split y1 (show q.b ≤ r.d by omega) t.b t.d
      have hY2 := ov_split (show q.b ≤ q.d by omega) y3 t.b t.d
      unfold ar
      simp only [arS, List.map_nil, List.sum_nil]
      rw [hY, hY2, Int.mul_add, Int.mul_add]
      have hm : ov r.a r.c t.a t.c * ov q.b q.d t.b t.d = ov r.a q.a t.a t.c * ov q.b q.d t.b t.d + (ov q.a q.c t.a t.c * ov q.b q.d t.b t.d + ov q.c r.c t.a t.c * ov q.b q.d t.b t.d) := by
        rw [hX, hX2, Int.add_mul, Int.add_mul]
      rw [hm]
      omega
theorem less_join (r s : Bx) : Bx.o.join (r.less s ++ [r.cut [s]]) = r.cut [] := by
  show _ = r.nrm
  obtain ⟨j1, j2, _⟩ := join_facts Bx.o (r.less s ++ [r.cut [s]])
  have hin : ∀ x, x.emp = false → x ∈ Bx.o :: (r.less s ++ [r.cut [s]]) → r.emp = false ∧ x.inn r := by
    intro x hx hm
    cases hr : r.emp with
    | true =>
      exfalso
      have e1 : r.less s = [] := by unfold Bx.less; rw [if_pos hr]
      have e2 : r.cut [s] = Bx.o := nrm_tt (cut1_emp s hr)
      rw [e1, e2] at hm
      simp only [List.nil_append, List.mem_cons, List.not_mem_nil, or_false, or_self] at hm
      rw [hm, emp_o] at hx
      cases hx
    | false =>
      refine ⟨rfl, ?_⟩
      rcases List.mem_cons.1 hm with rfl | hm
      · rw [emp_o] at hx; cases hx
      · rcases List.mem_append.1 hm with hm | hm
        · unfold Bx.less at hm
          rw [if_neg (by rw [hr]; decide)] at hm
          by_cases hq : r.cut [s] = Bx.o
          · rw [if_pos hq, List.mem_singleton] at hm
            subst hm
            exact ⟨Int.le_refl _, Int.le_refl _, Int.le_refl _, Int.le_refl _⟩
          · obtain ⟨he, e, ⟨x1, x2, x3⟩, y1, y2, y3⟩ := hole_in hq
            rw [if_neg hq] at hm
            have hm := (List.mem_filter.1 hm).1
            rw [e] at hm
            unfold Bx.pts at hm
            simp only [List.mem_cons, List.not_mem_nil, or_false] at hm
            rcases hm with rfl | rfl | rfl | rfl
            · exact ⟨Int.le_refl _, Int.le_refl _, Int.le_refl _, by show (r.cut1 s).b ≤ r.d; omega⟩
            · exact ⟨Int.le_refl _, y1, by show (r.cut1 s).a ≤ r.c; omega, y3⟩
            · exact ⟨by show r.a ≤ (r.cut1 s).c; omega, y1, Int.le_refl _, y3⟩
            · exact ⟨Int.le_refl _, by show r.b ≤ (r.cut1 s).d; omega, Int.le_refl _, Int.le_refl _⟩
        · rw [List.mem_singleton] at hm
          subst hm
          have hq : r.cut [s] ≠ Bx.o := fun e => by rw [e, emp_o] at hx; cases hx
          obtain ⟨he, e, ⟨x1, x2, x3⟩, y1, y2, y3⟩ := hole_in hq
          rw [e]
          exact ⟨x1, y1, x3, y3⟩
  refine ok_eq j1 (nrm_ok r) (fun hne => ?_) (fun hne => ?_)
  · obtain ⟨x, hx, hm⟩ := join_some hne
    have hr := (hin x hx hm).1
    rw [nrm_ff hr]
    exact ⟨hr, join_in hne fun y hy hm => (hin y hy hm).2⟩
  · have hr : r.emp = false := by rw [← nrm_emp]; exact hne
    rw [nrm_ff hr]
    by_cases hq : r.cut [s] = Bx.o
    · have hm : r ∈ Bx.o :: (r.less s ++ [r.cut [s]]) := by
        refine List.mem_cons_of_mem _ (List.mem_append_left _ ?_)
        unfold Bx.less
        rw [if_neg (by rw [hr]; decide), if_pos hq]
        exact List.mem_singleton.2 rfl
      exact j2 r hr hm
    · obtain ⟨he, e, ⟨x1, x2, x3⟩, y1, y2, y3⟩ := hole_in hq
      have hmq : r.cut1 s ∈ Bx.o :: (r.less s ++ [r.cut [s]]) := List.mem_cons_of_mem _ (List.mem_append_right _ (by rw [e]; exact List.mem_singleton.2 rfl))
      obtain ⟨f1, f2, f3, f4, f5⟩ := j2 _ he hmq
      have hpart : ∀ p : Bx, p ∈ r.pts (r.cut [s]) → p.emp = false → p.inn (Bx.o.join (r.less s ++ [r.cut [s]])) := fun p hp hpe => by
        refine (j2 p hpe (List.mem_cons_of_mem _ (List.mem_append_left _ ?_))).2
        unfold Bx.less
        rw [if_neg (by rw [hr]; decide), if_neg hq]
        exact List.mem_filter.2 ⟨hp, by unfold Bx.full; rw [hpe]; rfl⟩
      rw [e] at hpart f1 f2 f3 f4 f5 ⊢
      generalize Bx.o.join (r.less s ++ [r.cut1 s]) = F at *
      generalize r.cut1 s = q at *
      have hre := Bx.emp_no hr
      have k1 : r.b < q.b → F.a ≤ r.a ∧ F.b ≤ r.b ∧ r.c ≤ F.c := fun h => by
        obtain ⟨i1, i2, i3, i4⟩ := hpart ⟨r.a, r.b, r.c, q.b⟩ (by unfold Bx.pts; simp) (emp_ff.2 ⟨hre.1, h⟩)
        exact ⟨i1, i2, i3⟩
      have k2 : r.a < q.a → F.a ≤ r.a := fun h => (hpart ⟨r.a, q.b, q.a, q.d⟩ (by unfold Bx.pts; simp) (emp_ff.2 ⟨h, y2⟩)).1
      have k3 : q.c < r.c → r.c ≤ F.c := fun h => (hpart ⟨q.c, q.b, r.c, q.d⟩ (by unfold Bx.pts; simp) (emp_ff.2 ⟨h, y2⟩)).2.2.1
      have k4 : q.d < r.d → r.d ≤ F.d := fun h => (hpart ⟨r.a, q.d, r.c, r.d⟩ (by unfold Bx.pts; simp) (emp_ff.2 ⟨hre.1, h⟩)).2.2.2
      refine ⟨f1, ?_, ?_, ?_, ?_⟩
      · by_cases h : r.a < q.a
        · exact k2 h
        · omega
      · by_cases h : r.b < q.b
        · exact (k1 h).2.1
        · omega
      · by_cases h : q.c < r.c
        · exact k3 h
        · omega
      · by_cases h : q.d < r.d
        · exact k4 h
        · omega
theorem rt_mk {a b c d : Int} (h : (-1073741824 ≤ a ∧ a ≤ 1073741824) ∧ (-1073741824 ≤ b ∧ b ≤ 1073741824) ∧ (-1073741824 ≤ c ∧ c ≤ 1073741824) ∧ (-1073741824 ≤ d ∧ d ≤ 1073741824)) : (⟨a, b, c, d⟩ : Bx).rt = true := decide_eq_true h
theorem rt_o : Bx.o.rt = true := by decide
theorem rt_nrm {r : Bx} (h : r.rt = true) : r.nrm.rt = true := by
  rcases r.nrm_cases with ⟨_, e⟩ | ⟨_, e⟩
  · rw [e]; exact rt_o
  · rw [e]; exact h
theorem rt_cut1 {r s : Bx} (hr : r.rt = true) (hs : s.rt = true) : (r.cut1 s).rt = true := by
  have h := Bx.rt_of hr
  have h' := Bx.rt_of hs
  have g1 := mx_facts r.a s.a; have g2 := mx_facts r.b s.b; have g3 := mn_facts r.c s.c; have g4 := mn_facts r.d s.d
  unfold Bx.cut1
  exact rt_mk ⟨by omega, by omega, by omega, by omega⟩
theorem rt_cut {r s : Bx} (hr : r.rt = true) (hs : s.rt = true) : (r.cut [s]).rt = true := rt_nrm (rt_cut1 hr hs)
theorem rt_cut2 {r s t : Bx} (hr : r.rt = true) (hs : s.rt = true) (ht : t.rt = true) : (r.cut [s, t]).rt = true := rt_nrm (rt_cut1 (rt_cut1 hr hs) ht)
theorem rt_less {r s : Bx} (hr : r.rt = true) (hs : s.rt = true) : ∀ p ∈ r.less s, p.rt = true := by
  intro p hp
  have hc := Bx.rt_of (rt_cut hr hs)
  have h := Bx.rt_of hr
  unfold Bx.less at hp
  split at hp
  · cases hp
  · split at hp
    · rw [List.mem_singleton] at hp; rw [hp]; exact hr
    · have hp := (List.mem_filter.1 hp).1
      unfold Bx.pts at hp
      simp only [List.mem_cons, List.not_mem_nil, or_false] at hp
      rcases hp with rfl | rfl | rfl | rfl
      · exact rt_mk ⟨by omega, by omega, by omega, by omega⟩
      · exact rt_mk ⟨by omega, by omega, by omega, by omega⟩
      · exact rt_mk ⟨by omega, by omega, by omega, by omega⟩
      · exact rt_mk ⟨by omega, by omega, by omega, by omega⟩
theorem area_bd {r : Bx} (h : r.rt = true) : 0 ≤ r.area ∧ r.area ≤ 4611686018427387904 := by
  obtain ⟨⟨s1, s2⟩, s3, s4⟩ := Bx.sides h
  exact mul_bd s1 s2 s3 s4
end Go.Proofs.Ytjnhjhbhodhfgaa
