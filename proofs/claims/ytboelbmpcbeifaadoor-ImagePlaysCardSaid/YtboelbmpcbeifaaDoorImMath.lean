/-
  Layer 10 as plain arithmetic: which pixels some rectangles cover, told line by line from edge to edge; how many these are. No word of the program.
-/
import Derived.Test.YtboelbmpcbeifaaDoorRxA
namespace Go.Proofs.YtboelbmpcbeifaaDoor
namespace imm
/-! ### Edges -/
structure Eg where
  y : Int
  x0 : Int
  x1 : Int
  m : Int
instance : Inhabited Eg := ⟨⟨0, 0, 0, 0⟩⟩
def eg2 (r : Bx) : List Eg := [⟨r.b, r.a, r.c, 1⟩, ⟨r.d, r.a, r.c, -1⟩]
def egs (l : List Bx) : List Eg := l.flatMap eg2
def ind (p : Bool) : Int := if p = true then 1 else 0
theorem ind_t {p : Prop} [Decidable p] (h : p) : ind (decide p) = 1 := by unfold ind; rw [decide_eq_true h]; rfl
theorem ind_f {p : Prop} [Decidable p] (h : ¬ p) : ind (decide p) = 0 := by unfold ind; rw [decide_eq_false h]; rfl
def Eg.st (e : Eg) (x : Int) : Int := e.m * (ind (decide (e.x0 = x)) - ind (decide (e.x1 = x)))
def Eg.inn (e : Eg) (x : Int) : Int := e.m * (ind (decide (e.x0 ≤ x)) - ind (decide (e.x1 ≤ x)))
def tot (f : Eg → Int) : List Eg → Int
  | [] => 0
  | e :: l => f e + tot f l
theorem tot_app (f : Eg → Int) (l m : List Eg) : tot f (l ++ m) = tot f l + tot f m := by
  induction l with
  | nil => simp [tot]
  | cons e l ih => simp only [List.cons_append, tot, ih]; omega
theorem tot_add (f g : Eg → Int) (l : List Eg) : tot (fun e => f e + g e) l = tot f l + tot g l := by
  induction l with
  | nil => rfl
  | cons e l ih => simp only [tot, ih]; omega
theorem tot_congr {f g : Eg → Int} {l : List Eg} (h : ∀ e ∈ l, f e = g e) : tot f l = tot g l := by
  induction l with
  | nil => rfl
  | cons e l ih => simp only [tot, h e List.mem_cons_self, ih fun x hx => h x (List.mem_cons_of_mem _ hx)]
theorem tot_zero {f : Eg → Int} {l : List Eg} (h : ∀ e ∈ l, f e = 0) : tot f l = 0 := by
  induction l with
  | nil => rfl
  | cons e l ih => simp only [tot, h e List.mem_cons_self, ih fun x hx => h x (List.mem_cons_of_mem _ hx)]; rfl
theorem tot_perm {f : Eg → Int} {l m : List Eg} (h : l.Perm m) : tot f l = tot f m := by
  induction h with
  | nil => rfl
  | cons e _ ih => simp only [tot, ih]
  | swap a b l => simp only [tot]; omega
  | trans _ _ h1 h2 => rw [h1, h2]
theorem ind_step (a x : Int) : ind (decide (a ≤ x + 1)) = ind (decide (a ≤ x)) + ind (decide (a = x + 1)) := by
  by_cases h : a ≤ x
  · rw [ind_t h, ind_t (by omega), ind_f (by omega)]; rfl
  · by_cases h2 : a = x + 1
    · rw [ind_f h, ind_t h2, ind_t (by omega)]; rfl
    · rw [ind_f h, ind_f h2, ind_f (by omega)]; rfl
def inAt (es : List Eg) (x : Int) : Int := tot (fun e => e.inn x) es
def stAt (es : List Eg) (x : Int) : Int := tot (fun e => e.st x) es
theorem inAt_step (es : List Eg) (x : Int) : inAt es (x + 1) = inAt es x + stAt es (x + 1) := by
  unfold inAt stAt
  rw [← tot_add]
  refine tot_congr fun e _ => ?_
  unfold Eg.inn Eg.st
  rw [ind_step, ind_step, ← Int.mul_add]
  congr 1
  omega
theorem inAt_low {es : List Eg} {x : Int} (h : ∀ e ∈ es, x < e.x0 ∧ x < e.x1) : inAt es x = 0 := tot_zero fun e he => by
  obtain ⟨h1, h2⟩ := h e he
  unfold Eg.inn
  rw [ind_f (by omega), ind_f (by omega)]
  simp
theorem stAt_snoc (es : List Eg) (e : Eg) (x : Int) : stAt (es ++ [e]) x = stAt es x + e.st x := by
  unfold stAt
  rw [tot_app]
  simp [tot]
/-! ### What is covered -/
def cov (l : List Bx) (x y : Int) : Bool := l.any fun r => r.has x y
def Fine (l : List Bx) : Prop := ∀ r ∈ l, r.a < r.c ∧ r.b < r.d
def some_ (l : List Bx) (x y : Int) : Int := (l.map fun r => ind (r.has x y)).sum
theorem some_nn (l : List Bx) (x y : Int) : 0 ≤ some_ l x y ∧ (some_ l x y = 0 ↔ cov l x y = false) := by
  induction l with
  | nil => exact ⟨Int.le_refl _, fun _ => rfl, fun _ => rfl⟩
  | cons r l ih =>
    have e : some_ (r :: l) x y = ind (r.has x y) + some_ l x y := by simp [some_]
    have e2 : cov (r :: l) x y = (r.has x y || cov l x y) := by simp [cov]
    rw [e, e2]
    unfold ind
    obtain ⟨i1, i2⟩ := ih
    cases r.has x y with
    | true => simp only [if_true, Bool.true_or]; exact ⟨by omega, fun h => by omega, fun h => by cases h⟩
    | false => simp only [Bool.false_eq_true, if_false, Bool.false_or, Int.zero_add]; exact ⟨i1, i2⟩
theorem eg2_tot {r : Bx} (h : r.a < r.c ∧ r.b < r.d) (x Y : Int) : tot (fun e => if e.y ≤ Y then e.inn x else 0) (eg2 r) = ind (r.has x Y) := by
  obtain ⟨h1, h2⟩ := h
  simp only [eg2, tot, Eg.inn, Bx.has, ind]
  by_cases c1 : r.a ≤ x <;> by_cases c2 : x < r.c <;> by_cases c3 : r.b ≤ Y <;> by_cases c4 : Y < r.d <;>
    simp [c1, c2, c3, c4, Int.not_le] <;> omega
theorem egs_tot {l : List Bx} (h : Fine l) (x Y : Int) : tot (fun e => if e.y ≤ Y then e.inn x else 0) (egs l) = some_ l x Y := by
  induction l with
  | nil => rfl
  | cons r l ih =>
    have e : egs (r :: l) = eg2 r ++ egs l := rfl
    rw [e, tot_app, eg2_tot (h r List.mem_cons_self), ih fun r hr => h r (List.mem_cons_of_mem _ hr)]
    simp [some_]
/-- edges in their order -/
def Sorted (es : List Eg) : Prop := ∀ i j (hi : i < es.length) (hj : j < es.length), i < j → es[i].y ≤ es[j].y
theorem inAt_take {l : List Bx} (hf : Fine l) {es : List Eg} (hp : es.Perm (egs l)) (hs : Sorted es) {k : Nat} (hk : k + 1 < es.length) (hy : es[k].y < es[k + 1].y) (x : Int) : inAt (es.take (k + 1)) x = some_ l x es[k].y := by
  rw [← egs_tot hf, ← tot_perm hp]
  obtain ⟨Y, hY⟩ : ∃ Y, es[k].y = Y := ⟨_, rfl⟩
  have e : tot (fun e => if e.y ≤ es[k].y then e.inn x else 0) es = tot (fun e => if e.y ≤ es[k].y then e.inn x else 0) (es.take (k + 1) ++ es.drop (k + 1)) := congrArg _ (List.take_append_drop (k + 1) es).symm
  rw [e]
  rw [tot_app, tot_zero (l := es.drop (k + 1)), Int.add_zero]
  · refine tot_congr fun e he => ?_
    obtain ⟨i, hi, rfl⟩ := List.mem_iff_getElem.1 he
    rw [List.getElem_take]
    rw [List.length_take] at hi
    rw [if_pos]
    by_cases h : i = k
    · subst h; exact Int.le_refl _
    · exact hs i k (by omega) (by omega) (by omega)
  · intro e he
    obtain ⟨i, hi, rfl⟩ := List.mem_iff_getElem.1 he
    rw [List.getElem_drop]
    rw [List.length_drop] at hi
    rw [if_neg]
    by_cases h : i = 0
    · subst h
      show ¬ es[k + 1 + 0].y ≤ _
      simp only [Nat.add_zero]
      omega
    · have := hs (k + 1) (k + 1 + i) (by omega) (by omega) (by omega)
      omega
theorem egs_mem {l : List Bx} {e : Eg} : e ∈ egs l ↔ ∃ r ∈ l, e = ⟨r.b, r.a, r.c, 1⟩ ∨ e = ⟨r.d, r.a, r.c, -1⟩ := by
  simp [egs, eg2]
/-- between two edges all lines are alike -/
theorem cov_band {l : List Bx} {es : List Eg} (hp : es.Perm (egs l)) (hs : Sorted es) {k : Nat} (hk : k + 1 < es.length) {y : Int} (h1 : es[k].y ≤ y) (h2 : y < es[k + 1].y) (x : Int) : cov l x y = cov l x es[k].y := by
  have hin : ∀ e ∈ es, e.y ≤ es[k].y ∨ es[k + 1].y ≤ e.y := fun e he => by
    obtain ⟨i, hi, rfl⟩ := List.mem_iff_getElem.1 he
    by_cases h : i ≤ k
    · left
      by_cases h' : i = k
      · subst h'; exact Int.le_refl _
      · exact hs i k (by omega) (by omega) (by omega)
    · right
      by_cases h' : i = k + 1
      · subst h'; exact Int.le_refl _
      · exact hs (k + 1) i (by omega) (by omega) (by omega)
  have hg : ∀ r ∈ l, r.has x y = r.has x es[k].y := fun r hr => by
    have e1 := hin ⟨r.b, r.a, r.c, 1⟩ (hp.mem_iff.2 (egs_mem.2 ⟨r, hr, .inl rfl⟩))
    have e2 := hin ⟨r.d, r.a, r.c, -1⟩ (hp.mem_iff.2 (egs_mem.2 ⟨r, hr, .inr rfl⟩))
    simp only at e1 e2
    unfold Bx.has
    rw [show decide (r.b ≤ y) = decide (r.b ≤ es[k].y) from decide_eq_decide.2 (by omega), show decide (y < r.d) = decide (es[k].y < r.d) from decide_eq_decide.2 (by omega)]
  unfold cov
  rw [Bool.eq_iff_iff, List.any_eq_true, List.any_eq_true]
  exact ⟨fun ⟨r, hr, h⟩ => ⟨r, hr, by rw [← hg r hr]; exact h⟩, fun ⟨r, hr, h⟩ => ⟨r, hr, by rw [hg r hr]; exact h⟩⟩
/-- ahead of the first edge there is nothing, behind the last one neither -/
theorem cov_first {l : List Bx} {es : List Eg} (hp : es.Perm (egs l)) (hs : Sorted es) (h0 : 0 < es.length) {x y : Int} (h : cov l x y = true) : es[0].y ≤ y := by
  unfold cov at h
  rw [List.any_eq_true] at h
  obtain ⟨r, hr, h⟩ := h
  unfold Bx.has at h
  simp only [Bool.and_eq_true, decide_eq_true_eq] at h
  obtain ⟨i, hi, e⟩ := List.mem_iff_getElem.1 (hp.mem_iff.2 (egs_mem.2 ⟨r, hr, .inl rfl⟩))
  have e2 : es[i].y = r.b := by rw [e]
  by_cases h' : i = 0
  · subst h'; omega
  · have := hs 0 i h0 hi (by omega)
    omega
theorem cov_last {l : List Bx} {es : List Eg} (hp : es.Perm (egs l)) (hs : Sorted es) {k : Nat} (hk : k + 1 = es.length) {x y : Int} (h : cov l x y = true) : y < es[k].y := by
  unfold cov at h
  rw [List.any_eq_true] at h
  obtain ⟨r, hr, h⟩ := h
  unfold Bx.has at h
  simp only [Bool.and_eq_true, decide_eq_true_eq] at h
  obtain ⟨i, hi, e⟩ := List.mem_iff_getElem.1 (hp.mem_iff.2 (egs_mem.2 ⟨r, hr, .inr rfl⟩))
  have e2 : es[i].y = r.d := by rw [e]
  by_cases h' : i = k
  · subst h'; omega
  · have := hs i k hi (by omega) (by omega)
    omega
theorem cov_none {l : List Bx} {es : List Eg} (hp : es.Perm (egs l)) (h0 : es.length = 0) (x y : Int) : cov l x y = false := by
  cases l with
  | nil => rfl
  | cons r l =>
    have := hp.length_eq
    rw [h0] at this
    simp [egs, eg2] at this
/-! ### How many there are -/
def cnt (F : Nat → Bool) : Nat → Nat
  | 0 => 0
  | n + 1 => cnt F n + if F n = true then 1 else 0
theorem cnt_congr {F G : Nat → Bool} {n : Nat} (h : ∀ i, i < n → F i = G i) : cnt F n = cnt G n := by
  induction n with
  | zero => rfl
  | succ n ih => simp only [cnt, h n (by omega), ih fun i hi => h i (by omega)]
theorem cnt_le (F : Nat → Bool) (n : Nat) : cnt F n ≤ n := by
  induction n with
  | zero => exact Nat.le_refl _
  | succ n ih => simp only [cnt]; split <;> omega
theorem cnt_or {F G : Nat → Bool} {n : Nat} (h : ∀ i, i < n → F i = true → G i = false) : cnt (fun i => F i || G i) n = cnt F n + cnt G n := by
  induction n with
  | zero => rfl
  | succ n ih =>
    simp only [cnt, ih fun i hi => h i (by omega)]
    have := h n (by omega)
    by_cases hF : F n = true
    · have hG := this hF
      simp [hF, hG]
      omega
    · have hF : F n = false := by simpa using hF
      simp [hF]
      omega
theorem cnt_add (F : Nat → Bool) (m n : Nat) : cnt F (m + n) = cnt F m + cnt (fun i => F (m + i)) n := by
  induction n with
  | zero => rfl
  | succ n ih => rw [← Nat.add_assoc]; simp only [cnt, ih]; omega
theorem cnt_row (a c : Nat) (W : Nat) (h1 : a ≤ c) : cnt (fun x => decide (a ≤ x) && decide (x < c)) W = min W c - min W a := by
  induction W with
  | zero => simp [cnt]
  | succ W ih =>
    simp only [cnt, ih]
    by_cases c1 : a ≤ W <;> by_cases c2 : W < c <;> simp [c1, c2] <;> omega
theorem cnt_all (n : Nat) : cnt (fun _ => true) n = n := by
  induction n with
  | zero => rfl
  | succ n ih => simp only [cnt, ih]; simp
theorem cnt_none (n : Nat) : cnt (fun _ => false) n = 0 := by
  induction n with
  | zero => rfl
  | succ n ih => simp only [cnt, ih]; simp
/-- a rectangle's pixels -/
theorem cnt_rect (a b c d W H : Nat) (hW : 0 < W) (h1 : a ≤ c) (h2 : c ≤ W) (h3 : b ≤ d) :
    cnt (fun i => (decide (a ≤ i % W) && decide (i % W < c)) && (decide (b ≤ i / W) && decide (i / W < d))) (W * H) = (min H d - min H b) * (c - a) := by
  induction H with
  | zero => simp [cnt]
  | succ H ih =>
    rw [Nat.mul_succ, cnt_add, ih]
    have e : cnt (fun i => (decide (a ≤ (W * H + i) % W) && decide ((W * H + i) % W < c)) && (decide (b ≤ (W * H + i) / W) && decide ((W * H + i) / W < d))) W =
        cnt (fun i => (decide (a ≤ i) && decide (i < c)) && (decide (b ≤ H) && decide (H < d))) W := cnt_congr fun i hi => by
      rw [Nat.mul_add_mod, Nat.mod_eq_of_lt hi, Nat.mul_add_div hW, Nat.div_eq_of_lt hi, Nat.add_zero]
    rw [e]
    by_cases hc : b ≤ H ∧ H < d
    · have e2 : cnt (fun i => (decide (a ≤ i) && decide (i < c)) && (decide (b ≤ H) && decide (H < d))) W = c - a := by
        rw [decide_eq_true hc.1, decide_eq_true hc.2]
        simp only [Bool.and_true]
        rw [cnt_row a c W h1]
        omega
      rw [e2, show min (H + 1) d - min (H + 1) b = (min H d - min H b) + 1 by omega, Nat.add_mul, Nat.one_mul]
    · have e2 : cnt (fun i => (decide (a ≤ i) && decide (i < c)) && (decide (b ≤ H) && decide (H < d))) W = 0 := by
        have : (decide (b ≤ H) && decide (H < d)) = false := by
          rw [Bool.and_eq_false_iff, decide_eq_false_iff_not, decide_eq_false_iff_not]; omega
        rw [this]
        simp only [Bool.and_false]
        exact cnt_none W
      rw [e2, show min (H + 1) d - min (H + 1) b = min H d - min H b by omega, Nat.add_zero]
end imm
end Go.Proofs.YtboelbmpcbeifaaDoor
