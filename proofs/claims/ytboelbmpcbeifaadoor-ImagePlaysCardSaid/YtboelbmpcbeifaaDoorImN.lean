/-
  Layer 10 as plain arithmetic: the steps from pixel to pixel, behind some edges; how far it is painted.
-/
import Derived.Test.YtboelbmpcbeifaaDoorImG
namespace Go.Proofs.YtboelbmpcbeifaaDoor
open imm
namespace imm
def stp (es : List Eg) (a : Int) (L : Nat) : List Int := (List.range L).map fun j => stAt es (a + (j : Nat))
theorem stp_len (es : List Eg) (a : Int) (L : Nat) : (stp es a L).length = L := by simp [stp]
theorem stp_at (es : List Eg) (a : Int) (L : Nat) {j : Nat} (hj : j < (stp es a L).length) : (stp es a L)[j] = stAt es (a + (j : Nat)) := by simp [stp]
theorem stp_nil (a : Int) (L : Nat) : stp [] a L = List.replicate L 0 := by
  refine List.ext_getElem (by simp [stp]) fun j h1 h2 => ?_
  rw [stp_at]
  simp [stAt, tot]
theorem ind_if (p : Prop) [Decidable p] : ind (decide p) = if p then 1 else 0 := by
  unfold ind
  by_cases h : p
  · simp [h]
  · simp [h]
theorem stp_snoc (es : List Eg) (e : Eg) (a : Int) (L : Nat) {i0 i1 : Nat} (h0 : e.x0 = a + (i0 : Nat)) (h1 : e.x1 = a + (i1 : Nat)) (hne : i0 ≠ i1) :
    ((stp es a L).set i0 (stAt es (a + (i0 : Nat)) + e.m)).set i1 (stAt es (a + (i1 : Nat)) - e.m) = stp (es ++ [e]) a L := by
  refine List.ext_getElem (by simp [stp]) fun j hj1 hj2 => ?_
  rw [stp_at, stAt_snoc, List.getElem_set, List.getElem_set, stp_at]
  unfold Eg.st
  rw [ind_if, ind_if, h0, h1]
  by_cases c1 : i1 = j
  · subst c1
    rw [if_pos rfl, if_neg (by omega), if_pos rfl]
    omega
  · rw [if_neg c1]
    by_cases c0 : i0 = j
    · subst c0
      rw [if_pos rfl, if_pos rfl, if_neg (by omega)]
      omega
    · rw [if_neg c0, if_neg (by omega), if_neg (by omega)]
      omega
theorem tot_bound {f : Eg → Int} {l : List Eg} (h : ∀ e ∈ l, -1 ≤ f e ∧ f e ≤ 1) : -(l.length : Int) ≤ tot f l ∧ tot f l ≤ (l.length : Int) := by
  induction l with
  | nil => simp [tot]
  | cons e l ih =>
    have := ih fun x hx => h x (List.mem_cons_of_mem _ hx)
    have := h e List.mem_cons_self
    simp only [tot, List.length_cons]
    omega
theorem stAt_bound {es : List Eg} (h : ∀ e ∈ es, e.m = 1 ∨ e.m = -1) (x : Int) : -(es.length : Int) ≤ stAt es x ∧ stAt es x ≤ (es.length : Int) := tot_bound fun e he => by
  unfold Eg.st
  rw [ind_if, ind_if]
  rcases h e he with h | h <;> rw [h] <;> split <;> split <;> omega
theorem pre_stp {es : List Eg} {a : Int} (h : ∀ e ∈ es, a ≤ e.x0 ∧ a ≤ e.x1) (L : Nat) : ∀ {k : Nat}, k ≤ L → pre (stp es a L) k = inAt es (a + (k : Nat) - 1)
  | 0, _ => by
    rw [inAt_low fun e he => by have := h e he; omega]
    rfl
  | k + 1, hk => by
    have hk' : k < (stp es a L).length := by rw [stp_len]; omega
    rw [pre_at _ hk', pre_stp h L (by omega), stp_at]
    have := inAt_step es (a + (k : Nat) - 1)
    rw [show a + (k : Nat) - 1 + 1 = a + (k : Nat) by omega] at this
    rw [show a + ((k + 1 : Nat) : Int) - 1 = a + (k : Nat) by omega, this]
/-! ### The rectangle about all -/
theorem bound_facts {l : List Bx} (hf : Fine l) (hin : ∀ r ∈ l, 0 ≤ r.a ∧ r.c ≤ 4096) : (0 ≤ (Bx.o.join l).a ∧ (Bx.o.join l).a ≤ (Bx.o.join l).c ∧ (Bx.o.join l).c ≤ 4096) ∧ ∀ r ∈ l, (Bx.o.join l).a ≤ r.a ∧ r.c ≤ (Bx.o.join l).c := by
  have hj := join_facts Bx.o l
  have hne : ∀ r ∈ l, r.emp = false := fun r hr => emp_ff.2 (hf r hr)
  have hB : ∀ r ∈ l, (Bx.o.join l).a ≤ r.a ∧ r.c ≤ (Bx.o.join l).c := fun r hr => by
    have h := (hj.2.1 r (hne r hr) (List.mem_cons_of_mem _ hr)).2
    unfold Bx.inn at h
    omega
  refine ⟨?_, hB⟩
  cases l with
  | nil => decide
  | cons r l =>
    have h1 := (hj.2.1 r (hne r List.mem_cons_self) (List.mem_cons_of_mem _ List.mem_cons_self)).1
    have hq : (Bx.o.join (r :: l)).inn ⟨0, mn r.b (Bx.o.join (r :: l)).b, 4096, mx r.d (Bx.o.join (r :: l)).d⟩ := by
      have h2 := join_in (R := ⟨0, (Bx.o.join (r :: l)).b, 4096, (Bx.o.join (r :: l)).d⟩) h1 (fun x hx hm => by
        rcases List.mem_cons.1 hm with rfl | hm
        · rw [emp_o] at hx; cases hx
        · have h3 := (hj.2.1 x hx (List.mem_cons_of_mem _ hm)).2
          have h4 := hin x hm
          unfold Bx.inn at h3 ⊢
          simp only
          omega)
      unfold Bx.inn at h2 ⊢
      simp only at h2 ⊢
      have := mn_facts r.b (Bx.o.join (r :: l)).b
      have := mx_facts r.d (Bx.o.join (r :: l)).d
      omega
    unfold Bx.inn at hq
    simp only at hq
    have h5 := hB r List.mem_cons_self
    have h6 := hf r List.mem_cons_self
    omega
theorem cov_iff {l : List Bx} {x y : Int} : cov l x y = true ↔ ∃ r ∈ l, r.a ≤ x ∧ x < r.c ∧ r.b ≤ y ∧ y < r.d := by
  unfold cov
  rw [List.any_eq_true]
  unfold Bx.has
  simp only [Bool.and_eq_true, decide_eq_true_eq]
theorem cov_x {l : List Bx} (hf : Fine l) (hin : ∀ r ∈ l, 0 ≤ r.a ∧ r.c ≤ 4096) {x y : Int} (h : cov l x y = true) : (Bx.o.join l).a ≤ x ∧ x < (Bx.o.join l).c := by
  obtain ⟨r, hr, h1, h2, _⟩ := cov_iff.1 h
  have := (bound_facts hf hin).2 r hr
  omega
theorem edge_facts {l : List Bx} (hf : Fine l) (hin : ∀ r ∈ l, 0 ≤ r.a ∧ r.c ≤ 4096) {es : List Eg} (hp : es.Perm (egs l)) {e : Eg} (he : e ∈ es) : (Bx.o.join l).a ≤ e.x0 ∧ e.x0 < e.x1 ∧ e.x1 ≤ (Bx.o.join l).c ∧ (e.m = 1 ∨ e.m = -1) := by
  obtain ⟨r, hr, h⟩ := egs_mem.1 (hp.mem_iff.1 he)
  have h1 := (bound_facts hf hin).2 r hr
  have h2 := hf r hr
  rcases h with rfl | rfl
  · exact ⟨h1.1, h2.1, h1.2, .inl rfl⟩
  · exact ⟨h1.1, h2.1, h1.2, .inr rfl⟩
/-! ### How far it is painted -/
/-- all lines above the edge k -/
def FK (l : List Bx) (es : List Eg) (k : Nat) (x y : Int) : Bool := cov l x y && (if h : k < es.length then decide (y < es[k].y) else true)
/-- .. and, of the lines from there to the next edge, the X first pixels -/
def FB (l : List Bx) (Y0 Y1 a : Int) (X : Nat) (x y : Int) : Bool := cov l x y && (decide (y < Y0) || (decide (y < Y1) && decide (x < a + (X : Nat))))
theorem FK_start {l : List Bx} {es : List Eg} (hp : es.Perm (egs l)) (hs : Sorted es) : FK l es 0 = fun _ _ => false := by
  funext x y
  unfold FK
  cases hc : cov l x y with
  | false => rfl
  | true =>
    by_cases h : 0 < es.length
    · rw [dif_pos h, decide_eq_false (by have := cov_first hp hs h hc; omega)]
      rfl
    · rw [cov_none hp (by omega)] at hc
      cases hc
theorem FK_end {l : List Bx} {es : List Eg} : FK l es es.length = cov l := by
  funext x y
  unfold FK
  rw [dif_neg (by omega), Bool.and_true]
theorem FK_last {l : List Bx} {es : List Eg} (hp : es.Perm (egs l)) (hs : Sorted es) {k : Nat} (hk : k + 1 = es.length) : FK l es (k + 1) = FK l es k := by
  funext x y
  unfold FK
  rw [dif_neg (by omega), dif_pos (show k < es.length by omega)]
  cases hc : cov l x y with
  | false => rfl
  | true => rw [decide_eq_true (cov_last hp hs hk hc)]
theorem FK_same {l : List Bx} {es : List Eg} {k : Nat} (hk : k + 1 < es.length) (hy : es[k].y = es[k + 1].y) : FK l es (k + 1) = FK l es k := by
  funext x y
  unfold FK
  rw [dif_pos hk, dif_pos (show k < es.length by omega), hy]
theorem FB_start {l : List Bx} (hf : Fine l) (hin : ∀ r ∈ l, 0 ≤ r.a ∧ r.c ≤ 4096) {es : List Eg} {k : Nat} (hk : k + 1 < es.length) : FB l es[k].y es[k + 1].y (Bx.o.join l).a 0 = FK l es k := by
  funext x y
  unfold FB FK
  rw [dif_pos (show k < es.length by omega)]
  cases hc : cov l x y with
  | false => rfl
  | true =>
    have := cov_x hf hin hc
    rw [show decide (x < (Bx.o.join l).a + ((0 : Nat) : Int)) = false from decide_eq_false (by omega), Bool.and_false, Bool.or_false]
theorem FB_end {l : List Bx} (hf : Fine l) (hin : ∀ r ∈ l, 0 ≤ r.a ∧ r.c ≤ 4096) {es : List Eg} (hs : Sorted es) {k : Nat} (hk : k + 1 < es.length) {L : Nat} (hL : (L : Int) = (Bx.o.join l).c - (Bx.o.join l).a + 1) : FB l es[k].y es[k + 1].y (Bx.o.join l).a L = FK l es (k + 1) := by
  funext x y
  unfold FB FK
  rw [dif_pos hk]
  cases hc : cov l x y with
  | false => rfl
  | true =>
    have := cov_x hf hin hc
    have h2 := hs k (k + 1) (by omega) hk (by omega)
    rw [decide_eq_true (show x < (Bx.o.join l).a + (L : Int) by omega), Bool.and_true]
    by_cases h3 : y < es[k].y
    · rw [decide_eq_true h3, decide_eq_true (show y < es[k + 1].y by omega)]; rfl
    · rw [decide_eq_false h3, Bool.false_or]
section
variable {l : List Bx} {es : List Eg}
/-- the steps behind the edges up to k tell what is covered below it -/
theorem steps_say (hf : Fine l) (hin : ∀ r ∈ l, 0 ≤ r.a ∧ r.c ≤ 4096) (hp : es.Perm (egs l)) (hs : Sorted es) {k : Nat} (hk : k + 1 < es.length) (hy : es[k].y < es[k + 1].y) (L : Nat) {j : Nat} (hj : j ≤ L) :
    pre (stp (es.take (k + 1)) (Bx.o.join l).a L) j = some_ l ((Bx.o.join l).a + (j : Nat) - 1) es[k].y := by
  rw [pre_stp (fun e he => by have := edge_facts hf hin hp (List.mem_of_mem_take he); omega) L hj, inAt_take hf hp hs hk hy]
theorem some_le (l : List Bx) (x y : Int) : some_ l x y ≤ (l.length : Nat) := by
  induction l with
  | nil => simp [some_]
  | cons r l ih =>
    have e : some_ (r :: l) x y = ind (r.has x y) + some_ l x y := by simp [some_]
    rw [e, List.length_cons]
    unfold ind
    split <;> omega
theorem FB_skip (hp : es.Perm (egs l)) (hs : Sorted es) {k : Nat} (hk : k + 1 < es.length) {a : Int} {X : Nat} (h : some_ l (a + (X : Nat)) es[k].y = 0) : FB l es[k].y es[k + 1].y a (X + 1) = FB l es[k].y es[k + 1].y a X := by
  funext x y
  unfold FB
  by_cases hx : x = a + (X : Nat)
  · subst hx
    by_cases h1 : y < es[k].y
    · simp only [decide_eq_true h1, Bool.true_or]
    · by_cases h2 : y < es[k + 1].y
      · rw [cov_band hp hs hk (by omega) h2, ((some_nn l _ _).2.1 h)]
        rfl
      · simp only [decide_eq_false h2, Bool.false_and]
  · rw [show decide (x < a + ((X + 1 : Nat) : Int)) = decide (x < a + (X : Nat)) from decide_eq_decide.2 (by omega)]
theorem FB_row (hp : es.Perm (egs l)) (hs : Sorted es) {k : Nat} (hk : k + 1 < es.length) {a : Int} {X0 X : Nat} (hX : X0 < X) (h : ∀ j : Nat, X0 ≤ j → j < X → some_ l (a + (j : Nat)) es[k].y ≠ 0) :
    (fun x y => FB l es[k].y es[k + 1].y a X0 x y || Bx.has ⟨a + (X0 : Nat), es[k].y, a + (X : Nat), es[k + 1].y⟩ x y) = FB l es[k].y es[k + 1].y a X ∧
    ∀ x y, Bx.has ⟨a + (X0 : Nat), es[k].y, a + (X : Nat), es[k + 1].y⟩ x y = true → FB l es[k].y es[k + 1].y a X0 x y = false ∧ cov l x y = true := by
  have hc : ∀ x y, Bx.has ⟨a + (X0 : Nat), es[k].y, a + (X : Nat), es[k + 1].y⟩ x y = true → FB l es[k].y es[k + 1].y a X0 x y = false ∧ cov l x y = true := fun x y hh => by
    unfold Bx.has at hh
    simp only [Bool.and_eq_true, decide_eq_true_eq] at hh
    obtain ⟨h1, h2, h3, h4⟩ := hh
    constructor
    · unfold FB
      rw [decide_eq_false (show ¬ y < es[k].y by omega), decide_eq_false (show ¬ x < a + (X0 : Nat) by omega)]
      simp
    · rw [cov_band hp hs hk h3 h4]
      have hn := h (x - a).toNat (by omega) (by omega)
      rw [show a + ((x - a).toNat : Int) = x by omega] at hn
      cases hcv : cov l x es[k].y with
      | true => rfl
      | false => exact absurd ((some_nn l _ _).2.2 hcv) hn
  refine ⟨?_, hc⟩
  funext x y
  cases hh : Bx.has ⟨a + (X0 : Nat), es[k].y, a + (X : Nat), es[k + 1].y⟩ x y with
  | true =>
    rw [Bool.or_true]
    obtain ⟨_, h2⟩ := hc x y hh
    unfold Bx.has at hh
    simp only [Bool.and_eq_true, decide_eq_true_eq] at hh
    unfold FB
    rw [h2, decide_eq_true (show y < es[k + 1].y by omega), decide_eq_true (show x < a + (X : Nat) by omega)]
    simp
  | false =>
    rw [Bool.or_false]
    unfold Bx.has at hh
    unfold FB
    cases hcv : cov l x y with
    | false => rfl
    | true =>
      rw [Bool.true_and, Bool.true_and]
      rw [Bool.eq_iff_iff]
      simp only [Bool.and_eq_false_iff, decide_eq_false_iff_not] at hh
      simp only [Bool.or_eq_true, Bool.and_eq_true, decide_eq_true_eq]
      omega
end
end imm
end Go.Proofs.YtboelbmpcbeifaaDoor
