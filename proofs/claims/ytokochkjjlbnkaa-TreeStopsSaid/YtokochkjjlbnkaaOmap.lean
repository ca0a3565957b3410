/-
  Lists of pairs that rise by their keys, as maps: plain lists, no word of the program. lt: the keys' strict order.
-/
import Derived.RowKit
namespace Go.Proofs.Ytokochkjjlbnkaa.omap

section
variable {κ α : Type} [DecidableEq κ]
/-- a strict total order -/
structure Ord (lt : κ → κ → Bool) : Prop where
  irr : ∀ a, lt a a = false
  tr : ∀ a b c, lt a b = true → lt b c = true → lt a c = true
  tot : ∀ a b, lt a b = false → lt b a = false → a = b
omit [DecidableEq κ] in
theorem Ord.asymm {lt : κ → κ → Bool} (o : Ord lt) {a b : κ} (h : lt a b = true) : lt b a = false := by
  cases hb : lt b a with
  | false => rfl
  | true => have := o.tr a b a h hb; rw [o.irr] at this; cases this
omit [DecidableEq κ] in
theorem Ord.ne {lt : κ → κ → Bool} (o : Ord lt) {a b : κ} (h : lt a b = true) : a ≠ b := fun e => by
  subst e
  rw [o.irr] at h
  cases h

def Rises (lt : κ → κ → Bool) (l : List (κ × α)) : Prop := l.Pairwise fun x y => lt x.1 y.1 = true
def look (l : List (κ × α)) (k : κ) : Option α := (l.find? fun x => decide (x.1 = k)).map (·.2)
def del (k : κ) (l : List (κ × α)) : List (κ × α) := l.filter fun x => decide (x.1 ≠ k)
/-- ahead of the first one that is greater -/
def ins (lt : κ → κ → Bool) (k : κ) (v : α) : List (κ × α) → List (κ × α)
  | [] => [(k, v)]
  | x :: l => if lt k x.1 = true then (k, v) :: x :: l else x :: ins lt k v l
/-- k has v, whatever it had -/
def put (lt : κ → κ → Bool) (k : κ) (v : α) (l : List (κ × α)) : List (κ × α) := ins lt k v (del k l)

theorem look_nil (k : κ) : look ([] : List (κ × α)) k = none := rfl
theorem look_cons (x : κ × α) (l : List (κ × α)) (k : κ) : look (x :: l) k = if x.1 = k then some x.2 else look l k := by
  unfold look
  rw [List.find?_cons]
  by_cases h : x.1 = k <;> simp [h]
theorem look_none {l : List (κ × α)} {k : κ} : look l k = none ↔ ∀ x ∈ l, x.1 ≠ k := by
  induction l with
  | nil => simp [look_nil]
  | cons x l ih =>
    rw [look_cons]
    by_cases h : x.1 = k
    · simp [h]
    · simp [h, ih]
theorem look_mem {l : List (κ × α)} {k : κ} {v : α} (h : look l k = some v) : (k, v) ∈ l := by
  induction l with
  | nil => cases h
  | cons x l ih =>
    rw [look_cons] at h
    by_cases hx : x.1 = k
    · rw [if_pos hx] at h
      obtain ⟨x1, x2⟩ := x
      simp only at hx h
      subst hx
      rw [← Option.some.inj h]
      exact List.mem_cons_self
    · rw [if_neg hx] at h
      exact List.mem_cons_of_mem _ (ih h)
variable {lt : κ → κ → Bool}
theorem Rises.look_of_mem (o : Ord lt) {l : List (κ × α)} (h : Rises lt l) {x : κ × α} (hx : x ∈ l) : look l x.1 = some x.2 := by
  induction l with
  | nil => cases hx
  | cons y l ih =>
    obtain ⟨h1, h2⟩ := List.pairwise_cons.1 h
    rw [look_cons]
    rcases List.mem_cons.1 hx with rfl | hx
    · simp
    · rw [if_neg (o.ne (h1 x hx))]
      exact ih h2 hx
theorem mem_del {k : κ} {l : List (κ × α)} {x : κ × α} : x ∈ del k l ↔ x ∈ l ∧ x.1 ≠ k := by simp [del]
theorem rises_del {k : κ} {l : List (κ × α)} (h : Rises lt l) : Rises lt (del k l) := h.filter _
theorem look_del (k j : κ) (l : List (κ × α)) : look (del k l) j = if j = k then none else look l j := by
  induction l with
  | nil => simp [del, look_nil]
  | cons x l ih =>
    unfold del at ih ⊢
    rw [List.filter_cons]
    by_cases hx : x.1 = k
    · rw [if_neg (by simp [hx]), ih, look_cons]
      by_cases hj : j = k
      · simp [hj]
      · rw [if_neg hj, if_neg hj, if_neg (fun e => hj (by rw [← e, hx]))]
    · rw [if_pos (by simp [hx]), look_cons, ih, look_cons]
      by_cases hj : j = k
      · rw [if_pos hj, if_pos hj, if_neg (fun e => hx (by rw [e, hj]))]
      · rw [if_neg hj, if_neg hj]
omit [DecidableEq κ] in
theorem mem_ins {k : κ} {v : α} {l : List (κ × α)} {x : κ × α} : x ∈ ins lt k v l ↔ x = (k, v) ∨ x ∈ l := by
  induction l with
  | nil => simp [ins]
  | cons y l ih =>
    unfold ins
    split
    · simp
    · simp only [List.mem_cons, ih]
      constructor
      · rintro (h | h | h)
        · exact .inr (.inl h)
        · exact .inl h
        · exact .inr (.inr h)
      · rintro (h | h | h)
        · exact .inr (.inl h)
        · exact .inl h
        · exact .inr (.inr h)
omit [DecidableEq κ] in
theorem rises_ins (o : Ord lt) {k : κ} {v : α} {l : List (κ × α)} (h : Rises lt l) (hk : ∀ x ∈ l, x.1 ≠ k) : Rises lt (ins lt k v l) := by
  induction l with
  | nil => exact List.pairwise_singleton _ _
  | cons y l ih =>
    obtain ⟨h1, h2⟩ := List.pairwise_cons.1 h
    unfold ins
    split
    · rename_i hlt
      refine List.pairwise_cons.2 ⟨fun x hx => ?_, h⟩
      rcases List.mem_cons.1 hx with rfl | hx
      · exact hlt
      · exact o.tr _ _ _ hlt (h1 x hx)
    · rename_i hlt
      refine List.pairwise_cons.2 ⟨fun x hx => ?_, ih h2 (fun x hx => hk x (List.mem_cons_of_mem _ hx))⟩
      rcases mem_ins.1 hx with rfl | hx
      · cases hyk : lt y.1 k with
        | true => rfl
        | false => exact absurd (o.tot _ _ hyk (by simpa using hlt)) (hk y List.mem_cons_self)
      · exact h1 x hx
theorem look_ins {k : κ} {v : α} {l : List (κ × α)} (hk : ∀ x ∈ l, x.1 ≠ k) (j : κ) : look (ins lt k v l) j = if j = k then some v else look l j := by
  induction l with
  | nil =>
    unfold ins
    rw [look_cons, look_nil]
    by_cases h : j = k
    · simp [h]
    · rw [if_neg (fun e => h e.symm), if_neg h]
  | cons y l ih =>
    have hy := hk y List.mem_cons_self
    have hl : ∀ x ∈ l, x.1 ≠ k := fun x hx => hk x (List.mem_cons_of_mem _ hx)
    unfold ins
    split
    · rw [look_cons]
      by_cases h : j = k
      · simp [h]
      · rw [if_neg (fun e => h e.symm), if_neg h]
    · rw [look_cons, look_cons, ih hl]
      by_cases h : j = k
      · subst h
        rw [if_neg hy, if_pos rfl, if_pos rfl]
      · simp [h]
omit [DecidableEq κ] in
theorem length_ins (k : κ) (v : α) (l : List (κ × α)) : (ins lt k v l).length = l.length + 1 := by
  induction l with
  | nil => rfl
  | cons y l ih =>
    unfold ins
    split
    · rfl
    · simp [ih]
theorem del_fresh {k : κ} {l : List (κ × α)} (h : ∀ x ∈ l, x.1 ≠ k) : del k l = l := List.filter_eq_self.2 (fun x hx => by simpa using h x hx)
theorem not_in_del (k : κ) (l : List (κ × α)) : ∀ x ∈ del k l, x.1 ≠ k := fun _ hx => (mem_del.1 hx).2
theorem rises_put (o : Ord lt) {k : κ} {v : α} {l : List (κ × α)} (h : Rises lt l) : Rises lt (put lt k v l) := rises_ins o (rises_del h) (not_in_del k l)
theorem look_put (k : κ) (v : α) (l : List (κ × α)) (j : κ) : look (put lt k v l) j = if j = k then some v else look l j := by
  unfold put
  rw [look_ins (not_in_del k l), look_del]
  by_cases h : j = k <;> simp [h]
theorem length_del (o : Ord lt) {k : κ} {l : List (κ × α)} (h : Rises lt l) {v : α} (hk : look l k = some v) : (del k l).length + 1 = l.length := by
  induction l with
  | nil => cases hk
  | cons y l ih =>
    obtain ⟨h1, h2⟩ := List.pairwise_cons.1 h
    rw [look_cons] at hk
    by_cases hy : y.1 = k
    · have hf : ∀ x ∈ l, x.1 ≠ k := fun x hx e => by
        have := o.ne (h1 x hx)
        rw [hy, e] at this
        exact this rfl
      unfold del
      rw [List.filter_cons, if_neg (by simp [hy])]
      have := del_fresh hf
      unfold del at this
      rw [this]
      rfl
    · rw [if_neg hy] at hk
      have := ih h2 hk
      unfold del at this ⊢
      rw [List.filter_cons, if_pos (by simp [hy]), List.length_cons, List.length_cons]
      omega
/-- what is measured of all, in all -/
def total (f : κ × α → Nat) (l : List (κ × α)) : Nat := (l.map f).sum
omit [DecidableEq κ] in
theorem total_ins (f : κ × α → Nat) (k : κ) (v : α) (l : List (κ × α)) : total f (ins lt k v l) = f (k, v) + total f l := by
  induction l with
  | nil => simp [ins, total]
  | cons y l ih =>
    unfold ins
    split
    · simp [total]
    · unfold total at ih ⊢
      simp only [List.map_cons, List.sum_cons, ih]
      omega
theorem total_del (o : Ord lt) (f : κ × α → Nat) {k : κ} {l : List (κ × α)} (h : Rises lt l) {v : α} (hk : look l k = some v) : f (k, v) + total f (del k l) = total f l := by
  induction l with
  | nil => cases hk
  | cons y l ih =>
    obtain ⟨h1, h2⟩ := List.pairwise_cons.1 h
    rw [look_cons] at hk
    by_cases hy : y.1 = k
    · have hf : ∀ x ∈ l, x.1 ≠ k := fun x hx e => by
        have := o.ne (h1 x hx)
        rw [hy, e] at this
        exact this rfl
      rw [if_pos hy] at hk
      have he : y = (k, v) := by
        obtain ⟨y1, y2⟩ := y
        simp only at hy hk
        rw [hy, Option.some.inj hk]
      unfold del
      rw [List.filter_cons, if_neg (by simp [hy])]
      have := del_fresh hf
      unfold del at this
      rw [this, he]
      simp [total]
    · rw [if_neg hy] at hk
      have := ih h2 hk
      unfold del at this ⊢
      rw [List.filter_cons, if_pos (by simp [hy])]
      unfold total at this ⊢
      simp only [List.map_cons, List.sum_cons]
      omega
/-- two that rise and look the same are one -/
theorem ext (o : Ord lt) : ∀ {l m : List (κ × α)}, Rises lt l → Rises lt m → (∀ k, look l k = look m k) → l = m
  | [], [], _, _, _ => rfl
  | [], y :: m, _, _, h => by
    have := h y.1
    rw [look_nil, look_cons, if_pos rfl] at this
    cases this
  | x :: l, [], _, _, h => by
    have := h x.1
    rw [look_nil, look_cons, if_pos rfl] at this
    cases this
  | x :: l, y :: m, hl, hm, h => by
    obtain ⟨l1, l2⟩ := List.pairwise_cons.1 hl
    obtain ⟨m1, m2⟩ := List.pairwise_cons.1 hm
    have hxm : (x.1, x.2) ∈ y :: m := look_mem (by rw [← h x.1, look_cons, if_pos rfl])
    have hyl : (y.1, y.2) ∈ x :: l := look_mem (by rw [h y.1, look_cons, if_pos rfl])
    have hxy : x = y := by
      rcases List.mem_cons.1 hxm with e | hx
      · exact e
      · rcases List.mem_cons.1 hyl with e | hy
        · exact e.symm
        · have a := m1 _ hx
          have b := l1 _ hy
          have := o.asymm a
          rw [b] at this
          cases this
    subst hxy
    have : l = m := ext o l2 m2 fun k => by
      have hk := h k
      rw [look_cons, look_cons] at hk
      by_cases e : x.1 = k
      · have n1 : look l k = none := look_none.2 fun z hz e2 => by
          have := o.ne (l1 z hz)
          rw [e, e2] at this
          exact this rfl
        have n2 : look m k = none := look_none.2 fun z hz e2 => by
          have := o.ne (m1 z hz)
          rw [e, e2] at this
          exact this rfl
        rw [n1, n2]
      · rw [if_neg e, if_neg e] at hk
        exact hk
    rw [this]
/-- keys that rise, and are just these -/
theorem keys_ext (o : Ord lt) {l : List (κ × α)} (hl : Rises lt l) {ks : List κ} (hk : ks.Pairwise fun a b => lt a b = true) (h : ∀ k, k ∈ ks ↔ ∃ v, look l k = some v) : ks = l.map (·.1) := by
  have e : (ks.map fun k => (k, ())) = l.map fun x => (x.1, ()) := by
    refine ext o ?_ ?_ fun k => ?_
    · exact List.pairwise_map.2 hk
    · exact List.pairwise_map.2 hl
    · have unitlook : ∀ (m : List (κ × Unit)), look m k = if ∃ x ∈ m, x.1 = k then some () else none := fun m => by
        by_cases hx : ∃ x ∈ m, x.1 = k
        · rw [if_pos hx]
          cases hm : look m k with
          | some u => rfl
          | none =>
            obtain ⟨x, h1, h2⟩ := hx
            exact absurd h2 (look_none.1 hm x h1)
        · rw [if_neg hx]
          exact look_none.2 fun x hm e => hx ⟨x, hm, e⟩
      rw [unitlook, unitlook]
      have hiff : (∃ x ∈ ks.map (fun k => (k, ())), x.1 = k) ↔ ∃ x ∈ l.map (fun x => (x.1, ())), x.1 = k := by
        constructor
        · rintro ⟨x, hx, e⟩
          obtain ⟨a, ha, rfl⟩ := List.mem_map.1 hx
          simp only at e
          subst e
          obtain ⟨v, hv⟩ := (h a).1 ha
          exact ⟨(a, ()), List.mem_map.2 ⟨(a, v), look_mem hv, rfl⟩, rfl⟩
        · rintro ⟨x, hx, e⟩
          obtain ⟨y, hy, rfl⟩ := List.mem_map.1 hx
          simp only at e
          subst e
          exact ⟨(y.1, ()), List.mem_map.2 ⟨y.1, (h y.1).2 ⟨y.2, Rises.look_of_mem o hl hy⟩, rfl⟩, rfl⟩
      by_cases hc : ∃ x ∈ ks.map (fun k => (k, ())), x.1 = k
      · rw [if_pos hc, if_pos (hiff.1 hc)]
      · rw [if_neg hc, if_neg (fun hx => hc (hiff.2 hx))]
  have := congrArg (List.map Prod.fst) e
  rw [List.map_map, List.map_map, show ((Prod.fst : κ × Unit → κ) ∘ fun k => (k, ())) = id from rfl, List.map_id] at this
  exact this
end

/-! ### The order of texts, byte by byte -/
def lexlt : List Nat → List Nat → Bool
  | _, [] => false
  | [], _ :: _ => true
  | a :: l, b :: m => if a < b then true else if b < a then false else lexlt l m
theorem lexlt_ord : Ord lexlt where
  irr := fun l => by
    induction l with
    | nil => rfl
    | cons a l ih => simp [lexlt, ih]
  tr := fun a => by
    induction a with
    | nil =>
      intro b c h1 h2
      cases c with
      | nil => cases b <;> simp [lexlt] at h2
      | cons z c => rfl
    | cons x a ih =>
      intro b c h1 h2
      cases b with
      | nil => simp [lexlt] at h1
      | cons y b =>
        cases c with
        | nil => simp [lexlt] at h2
        | cons z c =>
          simp only [lexlt] at h1 h2 ⊢
          split at h1
          · split at h2
            · rw [if_pos (by omega)]
            · split at h2
              · cases h2
              · rw [if_pos (by omega)]
          · split at h1
            · cases h1
            · split at h2
              · rw [if_pos (by omega)]
              · split at h2
                · cases h2
                · rw [if_neg (by omega), if_neg (by omega)]
                  exact ih b c h1 h2
  tot := fun a => by
    induction a with
    | nil =>
      intro b h1 _
      cases b with
      | nil => rfl
      | cons y b => simp [lexlt] at h1
    | cons x a ih =>
      intro b h1 h2
      cases b with
      | nil => simp [lexlt] at h2
      | cons y b =>
        simp only [lexlt] at h1 h2
        split at h1
        · cases h1
        · split at h2
          · cases h2
          · have e : x = y := by omega
            subst e
            rw [if_neg (by omega)] at h1
            rw [ih b h1 h2]
end Go.Proofs.Ytokochkjjlbnkaa.omap
