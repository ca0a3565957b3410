/-
  Layer 6: plain facts of rectangles: what a cut has, what a join has, areas of parts.
-/
import Derived.Test.YtboelbmpcbeifaaDoorRxE
namespace Go.Proofs.YtboelbmpcbeifaaDoor
open Go.RowKit

theorem mx_facts (x y : Int) : x ≤ mx x y ∧ y ≤ mx x y ∧ (mx x y = x ∨ mx x y = y) := by unfold mx; split <;> omega
theorem mn_facts (x y : Int) : mn x y ≤ x ∧ mn x y ≤ y ∧ (mn x y = x ∨ mn x y = y) := by unfold mn; split <;> omega
theorem emp_ff {r : Bx} : r.emp = false ↔ r.a < r.c ∧ r.b < r.d := ⟨Bx.emp_no, fun h => by unfold Bx.emp; rw [decide_eq_false (by omega), decide_eq_false (by omega)]; rfl⟩
theorem emp_tt {r : Bx} : r.emp = true ↔ r.c ≤ r.a ∨ r.d ≤ r.b := ⟨Bx.emp_yes, fun h => by unfold Bx.emp; rw [Bool.or_eq_true, decide_eq_true_eq, decide_eq_true_eq]; exact h⟩
theorem nrm_ff {r : Bx} (h : r.emp = false) : r.nrm = r := by unfold Bx.nrm; rw [if_neg (by rw [h]; decide)]
theorem nrm_tt {r : Bx} (h : r.emp = true) : r.nrm = Bx.o := by unfold Bx.nrm; rw [if_pos h]
theorem emp_o : Bx.o.emp = true := by decide
theorem ne_o {r : Bx} (h : r.emp = false) : r ≠ Bx.o := fun e => by rw [e, emp_o] at h; cases h
theorem nrm_emp (r : Bx) : r.nrm.emp = r.emp := by
  cases h : r.emp with
  | true => rw [nrm_tt h]; exact emp_o
  | false => rw [nrm_ff h]; exact h
theorem nrm_nrm (r : Bx) : r.nrm.nrm = r.nrm := by
  cases h : r.emp with
  | true => rw [nrm_tt h]; exact nrm_tt emp_o
  | false => rw [nrm_ff h]; exact nrm_ff h
theorem nrm_o {r : Bx} (h : r.nrm.emp = true) : r.nrm = Bx.o := by rw [nrm_emp] at h; exact nrm_tt h
theorem cut_nrm (r : Bx) (l : List Bx) : (r.cut l).nrm = r.cut l := nrm_nrm _
theorem cut_o {r : Bx} {l : List Bx} (h : (r.cut l).emp = true) : r.cut l = Bx.o := nrm_o h
theorem has_nrm (r : Bx) (x y : Int) : r.nrm.has x y = r.has x y := by
  cases h : r.emp with
  | true =>
    have h' := Bx.emp_yes h
    rw [nrm_tt h]
    unfold Bx.has Bx.o
    rw [Bool.eq_iff_iff]
    simp only [Bool.and_eq_true, decide_eq_true_eq]
    omega
  | false => rw [nrm_ff h]
theorem cut1_has (r s : Bx) (x y : Int) : (r.cut1 s).has x y = (r.has x y && s.has x y) := by
  have h1 := mx_facts r.a s.a
  have h2 := mx_facts r.b s.b
  have h3 := mn_facts r.c s.c
  have h4 := mn_facts r.d s.d
  unfold Bx.has Bx.cut1
  rw [Bool.eq_iff_iff]
  simp only [Bool.and_eq_true, decide_eq_true_eq]
  omega
theorem cut2_has (r s t : Bx) (x y : Int) : (r.cut [s, t]).has x y = ((r.has x y && s.has x y) && t.has x y) := by
  show ((r.cut1 s).cut1 t).nrm.has x y = _
  rw [has_nrm, cut1_has, cut1_has]
theorem bx_ext {p q : Bx} (h1 : p.a = q.a) (h2 : p.b = q.b) (h3 : p.c = q.c) (h4 : p.d = q.d) : p = q := by
  obtain ⟨a, b, c, d⟩ := p
  obtain ⟨a', b', c', d'⟩ := q
  simp only at h1 h2 h3 h4
  rw [h1, h2, h3, h4]
theorem mx_turn (r s t : Int) : mx (mx r s) t = mx (mx t r) s := by
  have g1 := mx_facts r s; have g2 := mx_facts (mx r s) t; have g3 := mx_facts t r; have g4 := mx_facts (mx t r) s
  omega
theorem mn_turn (r s t : Int) : mn (mn r s) t = mn (mn t r) s := by
  have g1 := mn_facts r s; have g2 := mn_facts (mn r s) t; have g3 := mn_facts t r; have g4 := mn_facts (mn t r) s
  omega
theorem cut_turn (r s t : Bx) : r.cut [s, t] = t.cut [r, s] := by
  show ((r.cut1 s).cut1 t).nrm = ((t.cut1 r).cut1 s).nrm
  congr 1
  exact bx_ext (mx_turn _ _ _) (mx_turn _ _ _) (mn_turn _ _ _) (mn_turn _ _ _)
/-- p lies in q, by its numbers -/
def Bx.inn (p q : Bx) : Prop := q.a ≤ p.a ∧ q.b ≤ p.b ∧ p.c ≤ q.c ∧ p.d ≤ q.d
theorem cut1_in (r s : Bx) (h : r.inn s) : r.cut1 s = r := by
  obtain ⟨h1, h2, h3, h4⟩ := h
  have g1 := mx_facts r.a s.a; have g2 := mx_facts r.b s.b; have g3 := mn_facts r.c s.c; have g4 := mn_facts r.d s.d
  exact bx_ext (by show mx r.a s.a = r.a; omega) (by show mx r.b s.b = r.b; omega) (by show mn r.c s.c = r.c; omega) (by show mn r.d s.d = r.d; omega)
theorem cut1_emp {r : Bx} (s : Bx) (h : r.emp = true) : (r.cut1 s).emp = true := by
  have h := Bx.emp_yes h
  have g1 := mx_facts r.a s.a; have g2 := mx_facts r.b s.b; have g3 := mn_facts r.c s.c; have g4 := mn_facts r.d s.d
  rw [emp_tt]
  show mn r.c s.c ≤ mx r.a s.a ∨ mn r.d s.d ≤ mx r.b s.b
  omega
theorem within_in {r s : Bx} (h : r.inn s) : r.within s = true := by
  unfold Bx.within
  rw [decide_eq_true_eq]
  show (r.cut1 s).nrm = r.nrm
  rw [cut1_in r s h]
theorem within_emp {r s : Bx} (h : r.emp = true) : r.within s = true := by
  unfold Bx.within
  rw [decide_eq_true_eq]
  show (r.cut1 s).nrm = r.nrm
  rw [nrm_tt (cut1_emp s h), nrm_tt h]
theorem within_no {r s : Bx} (h : r.emp = false) (hn : ¬ r.inn s) : r.within s = false := by
  unfold Bx.within
  rw [decide_eq_false_iff_not]
  intro e
  have e : (r.cut1 s).nrm = r.nrm := e
  rw [nrm_ff h] at e
  have h2 : (r.cut1 s).emp = false := by
    cases hc : (r.cut1 s).emp with
    | false => rfl
    | true => rw [nrm_tt hc] at e; exact absurd e.symm (ne_o h)
  rw [nrm_ff h2] at e
  have g1 := mx_facts r.a s.a; have g2 := mx_facts r.b s.b; have g3 := mn_facts r.c s.c; have g4 := mn_facts r.d s.d
  have f1 : mx r.a s.a = r.a := congrArg Bx.a e
  have f2 : mx r.b s.b = r.b := congrArg Bx.b e
  have f3 : mn r.c s.c = r.c := congrArg Bx.c e
  have f4 : mn r.d s.d = r.d := congrArg Bx.d e
  exact hn ⟨by omega, by omega, by omega, by omega⟩
theorem within_spec (r s : Bx) : r.within s = (r.emp || (decide (s.a ≤ r.a) && (decide (s.b ≤ r.b) && (decide (r.c ≤ s.c) && decide (r.d ≤ s.d))))) := by
  cases h : r.emp with
  | true => rw [within_emp h]; rfl
  | false =>
    by_cases hi : r.inn s
    · obtain ⟨h1, h2, h3, h4⟩ := id hi
      rw [within_in hi, decide_eq_true h1, decide_eq_true h2, decide_eq_true h3, decide_eq_true h4]; rfl
    · rw [within_no h hi]
      symm
      rw [Bool.false_or, ← Bool.not_eq_true]
      simp only [Bool.and_eq_true, decide_eq_true_eq]
      exact fun hh => hi ⟨hh.1, hh.2.1, hh.2.2.1, hh.2.2.2⟩
theorem cut_within (r s : Bx) : (r.cut [s]).within r = true := by
  cases h : (r.cut [s]).emp with
  | true => exact within_emp h
  | false =>
    refine within_in ?_
    have h2 : (r.cut1 s).emp = false := by rw [← nrm_emp]; exact h
    have e : r.cut [s] = r.cut1 s := nrm_ff h2
    rw [e]
    have g1 := mx_facts r.a s.a; have g2 := mx_facts r.b s.b; have g3 := mn_facts r.c s.c; have g4 := mn_facts r.d s.d
    exact ⟨by show r.a ≤ mx r.a s.a; omega, by show r.b ≤ mx r.b s.b; omega, by show mn r.c s.c ≤ r.c; omega, by show mn r.d s.d ≤ r.d; omega⟩
/-! ### Joins -/
theorem around_ff {p q : Bx} (hp : p.emp = false) (hq : q.emp = false) : p.around q = ⟨mn p.a q.a, mn p.b q.b, mx p.c q.c, mx p.d q.d⟩ := by
  unfold Bx.around
  rw [if_neg (ne_o hp), if_neg (ne_o hq)]
theorem join1_tt {p s : Bx} (h : s.emp = true) : p.join1 s = p := by
  unfold Bx.join1 Bx.around
  rw [nrm_tt h]
  by_cases hp : p = Bx.o
  · rw [if_pos hp, hp]
  · rw [if_neg hp, if_pos rfl]
theorem join1_o (s : Bx) : Bx.o.join1 s = s.nrm := by
  unfold Bx.join1 Bx.around
  rw [if_pos rfl]
def Bx.ok (r : Bx) : Prop := r = Bx.o ∨ r.emp = false
theorem nrm_ok (r : Bx) : r.nrm.ok := by
  cases h : r.emp with
  | true => exact .inl (nrm_tt h)
  | false => right; rw [nrm_ff h]; exact h
/-- a side of F is one of those -/
def Side (F acc : Bx) (l : List Bx) : Prop := (∃ x, x.emp = false ∧ (x = acc ∨ x ∈ l) ∧ x.a = F.a) ∧ (∃ x, x.emp = false ∧ (x = acc ∨ x ∈ l) ∧ x.b = F.b) ∧ (∃ x, x.emp = false ∧ (x = acc ∨ x ∈ l) ∧ x.c = F.c) ∧ (∃ x, x.emp = false ∧ (x = acc ∨ x ∈ l) ∧ x.d = F.d)
theorem join_spec : ∀ (l : List Bx) (acc : Bx), acc.ok → (l.foldl Bx.join1 acc).ok ∧ (∀ x, x.emp = false → (x = acc ∨ x ∈ l) → (l.foldl Bx.join1 acc).emp = false ∧ x.inn (l.foldl Bx.join1 acc)) ∧ ((l.foldl Bx.join1 acc).emp = false → Side (l.foldl Bx.join1 acc) acc l)
  | [], acc, hok => by
    refine ⟨hok, fun x hx h => ?_, fun h => ⟨⟨acc, h, .inl rfl, rfl⟩, ⟨acc, h, .inl rfl, rfl⟩, ⟨acc, h, .inl rfl, rfl⟩, ⟨acc, h, .inl rfl, rfl⟩⟩⟩
    rcases h with rfl | h
    · exact ⟨hx, ⟨Int.le_refl _, Int.le_refl _, Int.le_refl _, Int.le_refl _⟩⟩
    · cases h
  | s :: l, acc, hok => by
    rw [List.foldl_cons]
    cases hs : s.emp with
    | true =>
      rw [join1_tt hs]
      obtain ⟨h1, h2, h3⟩ := join_spec l acc hok
      refine ⟨h1, fun x hx h => ?_, fun h => ?_⟩
      · rcases h with rfl | h
        · exact h2 x hx (.inl rfl)
        · rcases List.mem_cons.1 h with rfl | h
          · rw [hs] at hx; cases hx
          · exact h2 x hx (.inr h)
      · have lift : ∀ {x : Bx}, (x = acc ∨ x ∈ l) → (x = acc ∨ x ∈ s :: l) := fun h => h.imp id (List.mem_cons_of_mem _)
        obtain ⟨⟨x1, a1, a2, a3⟩, ⟨x2, b1, b2, b3⟩, ⟨x3, c1, c2, c3⟩, ⟨x4, d1, d2, d3⟩⟩ := h3 h
        exact ⟨⟨x1, a1, lift a2, a3⟩, ⟨x2, b1, lift b2, b3⟩, ⟨x3, c1, lift c2, c3⟩, ⟨x4, d1, lift d2, d3⟩⟩
    | false =>
      rcases hok with rfl | hacc
      · rw [join1_o, nrm_ff hs]
        obtain ⟨h1, h2, h3⟩ := join_spec l s (.inr hs)
        refine ⟨h1, fun x hx h => ?_, fun h => ?_⟩
        · rcases h with rfl | h
          · rw [emp_o] at hx; cases hx
          · rcases List.mem_cons.1 h with rfl | h
            · exact h2 x hx (.inl rfl)
            · exact h2 x hx (.inr h)
        · have lift : ∀ {x : Bx}, (x = s ∨ x ∈ l) → (x = Bx.o ∨ x ∈ s :: l) := fun h => .inr (h.elim (fun e => e ▸ List.mem_cons_self) (List.mem_cons_of_mem _))
          obtain ⟨⟨x1, a1, a2, a3⟩, ⟨x2, b1, b2, b3⟩, ⟨x3, c1, c2, c3⟩, ⟨x4, d1, d2, d3⟩⟩ := h3 h
          exact ⟨⟨x1, a1, lift a2, a3⟩, ⟨x2, b1, lift b2, b3⟩, ⟨x3, c1, lift c2, c3⟩, ⟨x4, d1, lift d2, d3⟩⟩
      · have e : acc.join1 s = ⟨mn acc.a s.a, mn acc.b s.b, mx acc.c s.c, mx acc.d s.d⟩ := by
          unfold Bx.join1
          rw [nrm_ff hs]
          exact around_ff hacc hs
        have g1 := mn_facts acc.a s.a; have g2 := mn_facts acc.b s.b; have g3 := mx_facts acc.c s.c; have g4 := mx_facts acc.d s.d
        have ha := emp_ff.1 hacc
        have hb := emp_ff.1 hs
        rw [e]
        generalize hH : (⟨mn acc.a s.a, mn acc.b s.b, mx acc.c s.c, mx acc.d s.d⟩ : Bx) = H
        have e1 : H.a = mn acc.a s.a := by rw [← hH]
        have e2 : H.b = mn acc.b s.b := by rw [← hH]
        have e3 : H.c = mx acc.c s.c := by rw [← hH]
        have e4 : H.d = mx acc.d s.d := by rw [← hH]
        have hHe : H.emp = false := emp_ff.2 (by omega)
        obtain ⟨h1, h2, h3⟩ := join_spec l H (.inr hHe)
        obtain ⟨f1, f2⟩ := h2 H hHe (.inl rfl)
        obtain ⟨i1, i2, i3, i4⟩ := f2
        refine ⟨h1, fun x hx h => ?_, fun h => ?_⟩
        · rcases h with rfl | h
          · exact ⟨f1, by omega, by omega, by omega, by omega⟩
          · rcases List.mem_cons.1 h with rfl | h
            · exact ⟨f1, by omega, by omega, by omega, by omega⟩
            · exact h2 x hx (.inr h)
        · have m1 : s ∈ s :: l := List.mem_cons_self
          obtain ⟨⟨x1, a1, a2, a3⟩, ⟨x2, b1, b2, b3⟩, ⟨x3, c1, c2, c3⟩, ⟨x4, d1, d2, d3⟩⟩ := h3 h
          refine ⟨?_, ?_, ?_, ?_⟩
          · rcases a2 with rfl | a2
            · rcases g1.2.2 with q | q
              · exact ⟨acc, hacc, .inl rfl, by omega⟩
              · exact ⟨s, hs, .inr m1, by omega⟩
            · exact ⟨x1, a1, .inr (List.mem_cons_of_mem _ a2), a3⟩
          · rcases b2 with rfl | b2
            · rcases g2.2.2 with q | q
              · exact ⟨acc, hacc, .inl rfl, by omega⟩
              · exact ⟨s, hs, .inr m1, by omega⟩
            · exact ⟨x2, b1, .inr (List.mem_cons_of_mem _ b2), b3⟩
          · rcases c2 with rfl | c2
            · rcases g3.2.2 with q | q
              · exact ⟨acc, hacc, .inl rfl, by omega⟩
              · exact ⟨s, hs, .inr m1, by omega⟩
            · exact ⟨x3, c1, .inr (List.mem_cons_of_mem _ c2), c3⟩
          · rcases d2 with rfl | d2
            · rcases g4.2.2 with q | q
              · exact ⟨acc, hacc, .inl rfl, by omega⟩
              · exact ⟨s, hs, .inr m1, by omega⟩
            · exact ⟨x4, d1, .inr (List.mem_cons_of_mem _ d2), d3⟩
/-- the same of Join -/
theorem join_facts (r : Bx) (l : List Bx) : (r.join l).ok ∧ (∀ x, x.emp = false → x ∈ r :: l → (r.join l).emp = false ∧ x.inn (r.join l)) ∧
    ((r.join l).emp = false → (∃ x, x.emp = false ∧ x ∈ r :: l ∧ x.a = (r.join l).a) ∧ (∃ x, x.emp = false ∧ x ∈ r :: l ∧ x.b = (r.join l).b) ∧ (∃ x, x.emp = false ∧ x ∈ r :: l ∧ x.c = (r.join l).c) ∧ (∃ x, x.emp = false ∧ x ∈ r :: l ∧ x.d = (r.join l).d)) := by
  obtain ⟨h1, h2, h3⟩ := join_spec l r.nrm (nrm_ok r)
  have e : r.join l = l.foldl Bx.join1 r.nrm := rfl
  rw [← e] at h1 h2 h3
  have lift : ∀ {x : Bx}, x.emp = false → (x = r.nrm ∨ x ∈ l) → x ∈ r :: l := fun hx h => by
    rcases h with h | h
    · have : r.emp = false := by rw [← nrm_emp, ← h]; exact hx
      rw [h, nrm_ff this]
      exact List.mem_cons_self
    · exact List.mem_cons_of_mem _ h
  refine ⟨h1, fun x hx h => ?_, fun h => ?_⟩
  · rcases List.mem_cons.1 h with rfl | h
    · exact h2 x hx (.inl (nrm_ff hx).symm)
    · exact h2 x hx (.inr h)
  · obtain ⟨⟨x1, a1, a2, a3⟩, ⟨x2, b1, b2, b3⟩, ⟨x3, c1, c2, c3⟩, ⟨x4, d1, d2, d3⟩⟩ := h3 h
    exact ⟨⟨x1, a1, lift a1 a2, a3⟩, ⟨x2, b1, lift b1 b2, b3⟩, ⟨x3, c1, lift c1 c2, c3⟩, ⟨x4, d1, lift d1 d2, d3⟩⟩
theorem ok_eq {p q : Bx} (hp : p.ok) (hq : q.ok) (h1 : p.emp = false → q.emp = false ∧ p.inn q) (h2 : q.emp = false → p.emp = false ∧ q.inn p) : p = q := by
  cases hpe : p.emp with
  | true =>
    cases hqe : q.emp with
    | true => rw [hp.resolve_right (by rw [hpe]; decide), hq.resolve_right (by rw [hqe]; decide)]
    | false => have := (h2 hqe).1; rw [hpe] at this; cases this
  | false =>
    obtain ⟨hqe, i1, i2, i3, i4⟩ := h1 hpe
    obtain ⟨_, j1, j2, j3, j4⟩ := h2 hqe
    exact bx_ext (by omega) (by omega) (by omega) (by omega)
/-- a join lies in whatever all of its rectangles lie in -/
theorem join_in {r R : Bx} {l : List Bx} (hne : (r.join l).emp = false) (h : ∀ x, x.emp = false → x ∈ r :: l → x.inn R) : (r.join l).inn R := by
  obtain ⟨⟨x1, a1, a2, a3⟩, ⟨x2, b1, b2, b3⟩, ⟨x3, c1, c2, c3⟩, ⟨x4, d1, d2, d3⟩⟩ := (join_facts r l).2.2 hne
  have q1 := (h x1 a1 a2).1
  have q2 := (h x2 b1 b2).2.1
  have q3 := (h x3 c1 c2).2.2.1
  have q4 := (h x4 d1 d2).2.2.2
  exact ⟨by omega, by omega, by omega, by omega⟩
theorem join_some {r : Bx} {l : List Bx} (hne : (r.join l).emp = false) : ∃ x, x.emp = false ∧ x ∈ r :: l := by
  obtain ⟨⟨x1, a1, a2, _⟩, _⟩ := (join_facts r l).2.2 hne
  exact ⟨x1, a1, a2⟩
theorem join_of {r r2 : Bx} {l l2 : List Bx} (h : ∀ x, x ∈ r :: l ↔ x ∈ r2 :: l2) : r.join l = r2.join l2 := by
  obtain ⟨p1, p2, _⟩ := join_facts r l
  obtain ⟨q1, q2, _⟩ := join_facts r2 l2
  refine ok_eq p1 q1 (fun hne => ?_) (fun hne => ?_)
  · obtain ⟨x, hx, hm⟩ := join_some hne
    exact ⟨(q2 x hx ((h x).1 hm)).1, join_in hne fun y hy hm => (q2 y hy ((h y).1 hm)).2⟩
  · obtain ⟨x, hx, hm⟩ := join_some hne
    exact ⟨(p2 x hx ((h x).2 hm)).1, join_in hne fun y hy hm => (p2 y hy ((h y).2 hm)).2⟩
theorem join_turn (r s t : Bx) : r.join [s, t] = t.join [r, s] := join_of fun x => by
  simp only [List.mem_cons, List.not_mem_nil, or_false]
  constructor
  · rintro (h | h | h)
    · exact .inr (.inl h)
    · exact .inr (.inr h)
    · exact .inl h
  · rintro (h | h | h)
    · exact .inr (.inr h)
    · exact .inl h
    · exact .inr (.inl h)
theorem within_join (r s : Bx) : r.within (r.join [s]) = true := by
  cases h : r.emp with
  | true => exact within_emp h
  | false => exact within_in ((join_facts r [s]).2.1 r h List.mem_cons_self).2
theorem has_in {p q : Bx} {x y : Int} (h : p.inn q) (hp : p.has x y = true) : q.has x y = true := by
  obtain ⟨h1, h2, h3, h4⟩ := h
  unfold Bx.has at *
  simp only [Bool.and_eq_true, decide_eq_true_eq] at *
  omega
theorem has_ne {p : Bx} {x y : Int} (hp : p.has x y = true) : p.emp = false := by
  unfold Bx.has at hp
  simp only [Bool.and_eq_true, decide_eq_true_eq] at hp
  exact emp_ff.2 (by omega)
theorem join_has {r : Bx} {l : List Bx} {p : Bx} (hm : p ∈ r :: l) {x y : Int} (hp : p.has x y = true) : (r.join l).has x y = true :=
  has_in ((join_facts r l).2.1 p (has_ne hp) hm).2 hp
theorem join_cut (r s : Bx) : (r.join [s]).cut [r] = r.cut [] := by
  show ((r.join [s]).cut1 r).nrm = r.nrm
  cases h : r.emp with
  | true =>
    rw [nrm_tt h]
    refine nrm_tt ?_
    have hh := Bx.emp_yes h
    generalize r.join [s] = j
    have g1 := mx_facts j.a r.a; have g2 := mx_facts j.b r.b; have g3 := mn_facts j.c r.c; have g4 := mn_facts j.d r.d
    rw [emp_tt]
    show mn j.c r.c ≤ mx j.a r.a ∨ mn j.d r.d ≤ mx j.b r.b
    omega
  | false =>
    obtain ⟨_, h1, h2, h3, h4⟩ := (join_facts r [s]).2.1 r h List.mem_cons_self
    generalize r.join [s] = j at *
    have g1 := mx_facts j.a r.a; have g2 := mx_facts j.b r.b; have g3 := mn_facts j.c r.c; have g4 := mn_facts j.d r.d
    congr 1
    exact bx_ext (by show mx j.a r.a = r.a; omega) (by show mx j.b r.b = r.b; omega) (by show mn j.c r.c = r.c; omega) (by show mn j.d r.d = r.d; omega)
end Go.Proofs.YtboelbmpcbeifaaDoor
