/-
  A region that draws its order, walked once, whatever its operations do to the world: each operation is shown, from what the operations that it waits for have yielded, to yield what is said of it; in whichever order they come up.
-/
import Derived.Orders
import Derived.Below
import Derived.RowKit3
namespace Go.Proofs.Ytokochkjjlbnkaa.regs
open Go.RowKit

section
variable {P : Program} {ops : Array Oper} {Q : Exit → Act → World → Prop}

/-- operation i has come up, too -/
def upd (L : Nat → Bool) (i : Nat) : Nat → Bool := fun k => Nat.beq k i || L k
/-- how the world goes on: R; it stands as J says, by which operations have come up -/
structure Inv (R : World → World → Prop) (J : (Nat → Bool) → World → Prop) (ops : Array Oper) (a0 : Act) (w0 : World) (F : Nat → Value → World → Prop) (listed : Array Bool) (a : Act) (w : World) : Prop where
  size : listed.size = ops.size
  tmps : a.tmps.size = a0.tmps.size
  defers : a.defers = a0.defers
  rel : R w0 w
  st : J (fun k => listed.getD k false) w
  old : ∀ s, (∀ o ∈ ops.toList, o.dst ≠ some s) → a.tmps.getD s undef = a0.tmps.getD s undef
  facts : ∀ (k : Nat) (o : Oper) (d : Tmp), ops[k]? = some o → o.dst = some d → listed.getD k false = true → F k (a.tmps.getD d undef) w

/-- one operation, when it comes up -/
def StepOK (R : World → World → Prop) (J : (Nat → Bool) → World → Prop) (P : Program) (ops : Array Oper) (Q : Exit → Act → World → Prop) (a0 : Act) (w0 : World) (F : Nat → Value → World → Prop) (i : Nat) (o : Oper) : Prop :=
  ∀ (L : Nat → Bool) (a : Act) (w : World), a.defers = a0.defers → R w0 w → J L w → L i = false → (∀ s, (∀ o ∈ ops.toList, o.dst ≠ some s) → a.tmps.getD s undef = a0.tmps.getD s undef) →
    (∀ e ∈ o.after, Region.binds .any e = true → L e.on = true) →
    (∀ e ∈ o.after, Region.binds .any e = true → ∀ (ok : Oper) (d : Tmp), ops[e.on]? = some ok → ok.dst = some d → F e.on (a.tmps.getD d undef) w) →
    if Region.wanted o (yielded ops a.tmps) = true then o.wp P a w (fun a' w' => ∃ v, a' = a.put o.dst v ∧ R w w' ∧ F i v w' ∧ J (upd L i) w') Q else F i undef w ∧ J (upd L i) w

def AllSteps (R : World → World → Prop) (J : (Nat → Bool) → World → Prop) (P : Program) (ops : Array Oper) (Q : Exit → Act → World → Prop) (a0 : Act) (w0 : World) (F : Nat → Value → World → Prop) : Nat → List Oper → Prop
  | _, [] => True
  | i, o :: l => StepOK R J P ops Q a0 w0 F i o ∧ AllSteps R J P ops Q a0 w0 F (i + 1) l
theorem AllSteps.at_ {R : World → World → Prop} {J : (Nat → Bool) → World → Prop} {a0 : Act} {w0 : World} {F : Nat → Value → World → Prop} : ∀ {l : List Oper} {n : Nat}, AllSteps R J P ops Q a0 w0 F n l → ∀ (i : Nat) (o : Oper), l[i]? = some o → StepOK R J P ops Q a0 w0 F (n + i) o
  | [], _, _, i, o, h => by simp at h
  | x :: l, n, hs, i, o, h => by
    cases i with
    | zero =>
      simp only [List.getElem?_cons_zero, Option.some.injEq] at h
      subst h
      exact hs.1
    | succ i =>
      have := hs.2.at_ i o (by simpa using h)
      rw [show n + (i + 1) = n + 1 + i by omega]
      exact this

/-- each operation waits for earlier ones alone; no two write one slot; each slot is there -/
def chk (ops : List Oper) (size : Nat) : Bool :=
  (ops.zipIdx.all fun p => p.1.after.all fun e => !Region.binds .any e || decide (e.on < p.2)) && decide ((ops.filterMap (·.dst)).Nodup) && (ops.all fun o => match o.dst with | some d => decide (d < size) | none => true)
theorem nodup_at : ∀ {l : List Oper} (_ : (l.filterMap (·.dst)).Nodup) {i j : Nat} {x y : Oper} {d : Tmp}, l[i]? = some x → l[j]? = some y → x.dst = some d → y.dst = some d → i = j
  | [], _, i, j, x, y, d, hi, _, _, _ => by simp at hi
  | o :: l, h, i, j, x, y, d, hi, hj, hx, hy => by
    have mem : ∀ {k : Nat} {z : Oper}, l[k]? = some z → z.dst = some d → d ∈ l.filterMap (·.dst) := fun hk hz => List.mem_filterMap.2 ⟨_, List.mem_of_getElem? hk, hz⟩
    have hl : (l.filterMap (·.dst)).Nodup := by
      rw [List.filterMap_cons] at h
      split at h
      · exact h
      · exact (List.nodup_cons.1 h).2
    have hno : o.dst = some d → d ∉ l.filterMap (·.dst) := fun ho => by
      rw [List.filterMap_cons, ho] at h
      exact (List.nodup_cons.1 h).1
    cases i with
    | zero =>
      simp only [List.getElem?_cons_zero, Option.some.injEq] at hi
      subst hi
      cases j with
      | zero => rfl
      | succ j => exact absurd (mem (by simpa using hj) hy) (hno hx)
    | succ i =>
      cases j with
      | zero =>
        simp only [List.getElem?_cons_zero, Option.some.injEq] at hj
        subst hj
        exact absurd (mem (by simpa using hi) hx) (hno hy)
      | succ j => exact congrArg (· + 1) (nodup_at hl (by simpa using hi) (by simpa using hj) hx hy)

theorem getD_set_same (t : Array Value) (d : Nat) (v : Value) (h : d < t.size) : (t.setIfInBounds d v).getD d undef = v := by
  simp [Array.getD_eq_getD_getElem?, h]
theorem getD_set_ne (t : Array Value) (d s : Nat) (v : Value) (h : d ≠ s) : (t.setIfInBounds d v).getD s undef = t.getD s undef := by
  simp [Array.getD_eq_getD_getElem?, h]

/-- what a guard looks at -/
theorem yielded_of {a : Act} {j : Nat} {o : Oper} {d : Tmp} {b : Bool} (ho : ops[j]? = some o) (hd : o.dst = some d) (h : a.tmps.getD d undef = .bool b) : yielded ops a.tmps j = some b := by
  have : a.tmps[d]? = some (.bool b) := by
    rw [Array.getD_eq_getD_getElem?] at h
    cases hx : a.tmps[d]? with
    | none => rw [hx] at h; simp [undef] at h
    | some x => rw [hx] at h; simpa using h
  simp [yielded, ho, hd, this]

variable {R : World → World → Prop} {J : (Nat → Bool) → World → Prop} {a0 : Act} {w0 : World} {F : Nat → Value → World → Prop}

theorem upd_set {listed : Array Bool} {i : Nat} (hi : i < listed.size) : (fun k => (listed.setIfInBounds i true).getD k false) = upd (fun k => listed.getD k false) i := by
  funext k
  unfold upd
  by_cases h : i = k
  · subst h
    simp [Array.getD_eq_getD_getElem?, hi]
  · have : Nat.beq k i = false := by
      cases hb : Nat.beq k i with
      | false => rfl
      | true => exact absurd (Nat.eq_of_beq_eq_true hb).symm h
    rw [this]
    simp [Array.getD_eq_getD_getElem?, h]
theorem Inv.step (hT : ∀ a b c, R a b → R b c → R a c) (hmono : ∀ k v w w', F k v w → R w w' → F k v w') (hnd : (ops.toList.filterMap (·.dst)).Nodup) (hin : ∀ o ∈ ops.toList, ∀ d, o.dst = some d → d < a0.tmps.size)
    {listed : Array Bool} {a : Act} {w w' : World} (h : Inv R J ops a0 w0 F listed a w) {i : Nat} {o : Oper} (ho : ops[i]? = some o) {v : Value} (hb : R w w') (hF : F i v w') (hJ : J (upd (fun k => listed.getD k false) i) w') :
    Inv R J ops a0 w0 F (listed.setIfInBounds i true) (a.put o.dst v) w' := by
  have hmem : o ∈ ops.toList := by
    rw [← Array.getElem?_toList] at ho
    exact List.mem_of_getElem? ho
  have hil : i < listed.size := by
    rw [h.size]
    exact (Array.getElem?_eq_some_iff.1 ho).1
  refine ⟨by simpa using h.size, ?_, ?_, hT _ _ _ h.rel hb, by rw [upd_set hil]; exact hJ, fun s hs => ?_, fun k ok d hk hd hl => ?_⟩
  · unfold Act.put
    split <;> simp [h.tmps]
  · unfold Act.put
    split <;> simp [h.defers]
  · unfold Act.put
    split
    · rename_i d hd
      simp only
      rw [getD_set_ne _ _ _ _ (fun e => hs o hmem (by rw [hd, e]))]
      exact h.old s hs
    · exact h.old s hs
  · by_cases hik : i = k
    · subst hik
      obtain rfl : o = ok := Option.some.inj (ho.symm.trans hk)
      unfold Act.put
      rw [hd]
      simp only
      rw [getD_set_same _ _ _ (by rw [h.tmps]; exact hin o hmem d hd)]
      exact hF
    · have hl' : listed.getD k false = true := by
        simpa [Array.getD_eq_getD_getElem?, Array.getElem?_setIfInBounds, hik] using hl
      have hf := hmono _ _ _ _ (h.facts k ok d hk hd hl') hb
      unfold Act.put
      split
      · rename_i d' hd'
        simp only
        rw [getD_set_ne _ _ _ _ (fun e => hik (nodup_at hnd (by rw [Array.getElem?_toList]; exact ho) (by rw [Array.getElem?_toList]; exact hk) (by rw [hd', e]) hd))]
        exact hf
      · exact hf

theorem ready_of_least {listed : Array Bool} (hsize : listed.size = ops.size) (hback : ∀ (i : Nat) (o : Oper), ops[i]? = some o → ∀ e ∈ o.after, Region.binds .any e = true → e.on < i) (hr : Region.ready .any ops listed = []) :
    ∀ i, i < ops.size → listed.getD i false = true := by
  intro i
  induction i using Nat.strongRecOn with
  | _ i ih =>
    intro hi
    cases hl : listed.getD i false with
    | true => rfl
    | false =>
      exfalso
      have hil : i < listed.size := by omega
      have hl' : listed.getD i true = false := by
        simp [Array.getD_eq_getD_getElem?, hil] at hl ⊢
        exact hl
      have : i ∈ Region.ready .any ops listed := by
        unfold Region.ready
        rw [List.mem_filter]
        refine ⟨by simpa using hi, ?_⟩
        have ho : ops[i]? = some ops[i] := by simp [hi]
        rw [hl', ho]
        simp only [Bool.not_false, Bool.true_and, Option.map_some, Option.getD_some]
        rw [Array.all_eq_true_iff_forall_mem]
        intro e he
        cases hb : Region.binds .any e with
        | false => simp
        | true =>
          have hlt := hback i _ ho e he hb
          rw [ih e.on hlt (by omega)]
          simp
      rw [hr] at this
      cases this

theorem any_of_inv (hR : ∀ w, R w w) (hT : ∀ a b c, R a b → R b c → R a c) (hmono : ∀ k v w w', F k v w → R w w' → F k v w') (hnd : (ops.toList.filterMap (·.dst)).Nodup) (hin : ∀ o ∈ ops.toList, ∀ d, o.dst = some d → d < a0.tmps.size)
    (hback : ∀ (i : Nat) (o : Oper), ops[i]? = some o → ∀ e ∈ o.after, Region.binds .any e = true → e.on < i) (hs : ∀ (i : Nat) (o : Oper), ops[i]? = some o → StepOK R J P ops Q a0 w0 F i o)
    (hend : ∀ L a w, (∀ i, i < ops.size → L i = true) → J L w → a.defers = a0.defers → a.tmps.size = a0.tmps.size → R w0 w → (∀ s, (∀ o ∈ ops.toList, o.dst ≠ some s) → a.tmps.getD s undef = a0.tmps.getD s undef) →
      (∀ (k : Nat) (o : Oper) (d : Tmp), ops[k]? = some o → o.dst = some d → F k (a.tmps.getD d undef) w) → Q .normal a w) :
    ∀ (fuel : Nat) (listed : Array Bool) (a : Act) (w : World), listed.toList.count false ≤ fuel → Inv R J ops a0 w0 F listed a w → wpAny P .any ops Q fuel listed a w := by
  have stop : ∀ (listed : Array Bool) (a : Act) (w : World), Inv R J ops a0 w0 F listed a w → Region.ready .any ops listed = [] → Q .normal a w := fun listed a w h hr =>
    hend _ a w (ready_of_least h.size hback hr) h.st h.defers h.tmps h.rel h.old fun k o d hk hd => h.facts k o d hk hd (ready_of_least h.size hback hr k (by
      rcases Nat.lt_or_ge k ops.size with hlt | hge
      · exact hlt
      · rw [Array.getElem?_eq_none hge] at hk; cases hk))
  intro fuel
  induction fuel with
  | zero =>
    intro listed a w hc h
    have hr : Region.ready .any ops listed = [] := by
      unfold Region.ready
      rw [List.filter_eq_nil_iff]
      intro i hi
      have hi' : i < listed.size := by rw [h.size]; simpa using hi
      have hno : false ∉ listed.toList := List.count_eq_zero.1 (by omega)
      have : listed.getD i true = true := by
        simp only [Array.getD_eq_getD_getElem?, Array.getElem?_eq_getElem hi', Option.getD_some]
        cases hb : listed[i] with
        | true => rfl
        | false => exact absurd (by rw [← hb]; exact Array.getElem_mem_toList hi') hno
      rw [this]
      simp
    exact ⟨hr, stop listed a w h hr⟩
  | succ fuel ih =>
    intro listed a w hc h
    refine ⟨stop listed a w h, fun i hi => ?_⟩
    unfold Region.ready at hi
    rw [List.mem_filter] at hi
    obtain ⟨hi1, hi2⟩ := hi
    have hi' : i < ops.size := by simpa using hi1
    have hil : i < listed.size := by rw [h.size]; exact hi'
    have ho : ops[i]? = some ops[i] := by simp [hi']
    rw [ho] at hi2
    simp only [Option.map_some, Option.getD_some, Bool.and_eq_true, Bool.not_eq_true', Array.all_eq_true_iff_forall_mem, Bool.or_eq_true] at hi2
    obtain ⟨hun, hdeps⟩ := hi2
    have hst := hs i _ ho (fun k => listed.getD k false) a w h.defers h.rel h.st (by
      simp only [Array.getD_eq_getD_getElem?, Array.getElem?_eq_getElem hil, Option.getD_some] at hun ⊢
      exact hun) h.old (fun e he hb => by
      rcases hdeps e he with hx | hx
      · rw [hb] at hx; cases hx
      · exact hx) (fun e he hb ok d hok hd => h.facts e.on ok d hok hd (by
      rcases hdeps e he with hx | hx
      · rw [hb] at hx; cases hx
      · exact hx))
    have hcnt : (listed.setIfInBounds i true).toList.count false ≤ fuel := by
      have hf : listed.toList[i]'(by simpa using hil) = false := by
        simp only [Array.getD_eq_getD_getElem?, Array.getElem?_eq_getElem hil, Option.getD_some] at hun
        simpa using hun
      rw [Array.toList_setIfInBounds, List.count_set (by simpa using hil), hf]
      show List.count false listed.toList - 1 + 0 ≤ fuel
      omega
    unfold wpOp
    rw [ho]
    simp only
    split
    · rename_i hw
      rw [if_pos hw] at hst
      refine .inl (Oper.wp_mono (fun a' w' hh => ?_) hst)
      obtain ⟨v, rfl, hb, hF, hJ⟩ := hh
      exact ih _ _ _ hcnt (h.step hT hmono hnd hin ho hb hF hJ)
    · rename_i hw
      rw [if_neg hw] at hst
      exact ih _ _ _ hcnt (h.step hT hmono hnd hin ho (hR _) hst.1 hst.2)

/-- THE REGION: in whichever order its operations come up -/
theorem wp_region_facts {l : List Oper} {id : Nat} (hm : P.follows .mixedOrders = true) (hR : ∀ w, R w w) (hT : ∀ a b c, R a b → R b c → R a c) (F : Nat → Value → World → Prop) (hmono : ∀ k v w w', F k v w → R w w' → F k v w') (hchk : chk l a0.tmps.size = true)
    (hD : R w0 w0.drew) (h0 : J (fun _ => false) w0.drew) (hs : AllSteps R J P l.toArray Q a0 w0 F 0 l)
    (hend : ∀ L a w, (∀ i, i < l.length → L i = true) → J L w → a.defers = a0.defers → a.tmps.size = a0.tmps.size → R w0 w → (∀ s, (∀ o ∈ l, o.dst ≠ some s) → a.tmps.getD s undef = a0.tmps.getD s undef) →
      (∀ (k : Nat) (o : Oper) (d : Tmp), l[k]? = some o → o.dst = some d → F k (a.tmps.getD d undef) w) → Q .normal a w) :
    (Code.region id l.toArray true).wp P Q a0 w0 := by
  unfold chk at hchk
  simp only [Bool.and_eq_true, decide_eq_true_eq] at hchk
  obtain ⟨⟨h1, h2⟩, h3⟩ := hchk
  have hback : ∀ (i : Nat) (o : Oper), l.toArray[i]? = some o → ∀ e ∈ o.after, Region.binds .any e = true → e.on < i := by
    intro i o ho e he hb
    rw [List.all_eq_true] at h1
    have := h1 (o, i) (List.mem_zipIdx_iff_getElem?.2 (by simpa using ho))
    rw [Array.all_eq_true_iff_forall_mem] at this
    have h5 := this e he
    rw [hb] at h5
    simpa using h5
  have hin : ∀ o ∈ l, ∀ d, o.dst = some d → d < a0.tmps.size := by
    intro o ho d hd
    rw [List.all_eq_true] at h3
    have := h3 o ho
    rw [hd] at this
    simpa using this
  refine wp_region_any hm (any_of_inv (R := R) (J := J) (F := F) (a0 := a0) (w0 := w0) hR hT hmono h2 hin hback (fun i o ho => ?_) (fun L a w hL hJ h4 h5 h6 h7 h8 => hend L a w (by simpa using hL) hJ h4 h5 h6 h7 fun k o d hk hd => h8 k o d (by simpa using hk) hd) _ _ _ _ ?_ ?_)
  · have := hs.at_ i o (by simpa using ho)
    rw [Nat.zero_add] at this
    exact this
  · simp
  · have hL : (fun k => (Array.replicate l.toArray.size false).getD k false) = fun _ => false := by
      funext k
      simp [Array.getD_eq_getD_getElem?, Array.getElem?_replicate]
      split <;> rfl
    refine ⟨by simp, rfl, rfl, hD, by rw [hL]; exact h0, fun _ _ => rfl, fun k o d hk hd hl => ?_⟩
    exfalso
    simp [Array.getD_eq_getD_getElem?, Array.getElem?_replicate] at hl
    split at hl <;> simp at hl

/-! ### The same in words that close by computing -/
/-- no operation of the region writes slot s -/
def kept (l : List Oper) (s : Nat) : Bool := l.all fun o => match o.dst with | some d => d != s | none => true
/-- the slot of operation k -/
def slotOf (l : List Oper) (k : Nat) : Option Nat := (l[k]?).bind (·.dst)
/-- o waits for operation k -/
def waits (o : Oper) (k : Nat) : Bool := o.after.any fun e => e.on == k && Region.binds .any e
theorem kept_spec {l : List Oper} {s : Nat} (h : kept l s = true) : ∀ o ∈ l, o.dst ≠ some s := by
  intro o ho hd
  unfold kept at h
  rw [List.all_eq_true] at h
  have := h o ho
  rw [hd] at this
  simp at this

/-- what is at hand when an operation comes up: old slots, the facts of those that it waits for -/
structure Hand (R : World → World → Prop) (J : (Nat → Bool) → World → Prop) (l : List Oper) (a0 : Act) (w0 : World) (F : Nat → Value → World → Prop) (i : Nat) (o : Oper) (L : Nat → Bool) (a : Act) (w : World) : Prop where
  defers : a.defers = a0.defers
  rel : R w0 w
  st : J L w
  un : L i = false
  old : ∀ s, kept l s = true → a.tmps.getD s undef = a0.tmps.getD s undef
  up : ∀ k, waits o k = true → L k = true
  dep : ∀ k d, waits o k = true → slotOf l k = some d → F k (a.tmps.getD d undef) w
theorem StepOK.of {l : List Oper} {i : Nat} {o : Oper}
    (h : ∀ L a w, Hand R J l a0 w0 F i o L a w → if Region.wanted o (yielded l.toArray a.tmps) = true then o.wp P a w (fun a' w' => ∃ v, a' = a.put o.dst v ∧ R w w' ∧ F i v w' ∧ J (upd L i) w') Q else F i undef w ∧ J (upd L i) w) :
    StepOK R J P l.toArray Q a0 w0 F i o := fun L a w h1 h2 h3 h3u h4 h5 h6 => h L a w ⟨h1, h2, h3, h3u, fun s hs => h4 s (by simpa using kept_spec hs), fun k hw => by
  unfold waits at hw
  rw [Array.any_eq_true'] at hw
  obtain ⟨e, he, hb⟩ := hw
  simp only [Bool.and_eq_true, beq_iff_eq] at hb
  obtain ⟨hk, hb⟩ := hb
  subst hk
  exact h5 e he hb, fun k d hw hd => by
  unfold waits at hw
  rw [Array.any_eq_true'] at hw
  obtain ⟨e, he, hb⟩ := hw
  simp only [Bool.and_eq_true, beq_iff_eq] at hb
  obtain ⟨hk, hb⟩ := hb
  unfold slotOf at hd
  obtain ⟨ok, ho, hd'⟩ := Option.bind_eq_some_iff.1 hd
  subst hk
  exact h6 e he hb ok d (by simpa using ho) hd'⟩
/-- an operation without a guard -/
theorem StepOK.plain {l : List Oper} {i : Nat} {o : Oper} (hg : o.guard = none) (h : ∀ L a w, Hand R J l a0 w0 F i o L a w → o.wp P a w (fun a' w' => ∃ v, a' = a.put o.dst v ∧ R w w' ∧ F i v w' ∧ J (upd L i) w') Q) :
    StepOK R J P l.toArray Q a0 w0 F i o := StepOK.of fun L a w hh => by
  rw [if_pos (by simp [Region.wanted, hg])]
  exact h L a w hh
/-- an operation whose guard says yes -/
theorem StepOK.yes {l : List Oper} {i : Nat} {o : Oper} (j : Nat) (b : Bool) (d : Tmp) (hg : o.guard = some (j, b)) (hd : slotOf l j = some d) (hb : ∀ L a w, Hand R J l a0 w0 F i o L a w → a.tmps.getD d undef = .bool b)
    (h : ∀ L a w, Hand R J l a0 w0 F i o L a w → o.wp P a w (fun a' w' => ∃ v, a' = a.put o.dst v ∧ R w w' ∧ F i v w' ∧ J (upd L i) w') Q) : StepOK R J P l.toArray Q a0 w0 F i o := StepOK.of fun L a w hh => by
  unfold slotOf at hd
  obtain ⟨oj, hj, hd⟩ := Option.bind_eq_some_iff.1 hd
  have := yielded_of (ops := l.toArray) (by simpa using hj) hd (hb L a w hh)
  rw [if_pos (by simp [Region.wanted, hg, this])]
  exact h L a w hh
/-- an operation whose guard says no -/
theorem StepOK.no {l : List Oper} {i : Nat} {o : Oper} (j : Nat) (b : Bool) (d : Tmp) (hg : o.guard = some (j, b)) (hd : slotOf l j = some d) (hb : ∀ L a w, Hand R J l a0 w0 F i o L a w → a.tmps.getD d undef = .bool (!b))
    (h : ∀ L a w, Hand R J l a0 w0 F i o L a w → F i undef w ∧ J (upd L i) w) : StepOK R J P l.toArray Q a0 w0 F i o := StepOK.of fun L a w hh => by
  unfold slotOf at hd
  obtain ⟨oj, hj, hd⟩ := Option.bind_eq_some_iff.1 hd
  have := yielded_of (ops := l.toArray) (by simpa using hj) hd (hb L a w hh)
  rw [if_neg (by simp [Region.wanted, hg, this])]
  exact h L a w hh
theorem yielded_undef {ops : Array Oper} {a : Act} {j : Nat} {o : Oper} {d : Tmp} {b : Bool} (ho : ops[j]? = some o) (hd : o.dst = some d) (h : a.tmps.getD d undef = undef) : yielded ops a.tmps j ≠ some b := by
  rw [Array.getD_eq_getD_getElem?] at h
  cases hx : a.tmps[d]? with
  | none => simp [yielded, ho, hd, hx]
  | some x =>
    rw [hx] at h
    simp only [Option.getD_some] at h
    subst h
    simp [yielded, ho, hd, hx, undef]
/-- an operation whose guard was not taken itself -/
theorem StepOK.out_ {l : List Oper} {i : Nat} {o : Oper} (j : Nat) (b : Bool) (d : Tmp) (hg : o.guard = some (j, b)) (hd : slotOf l j = some d) (hb : ∀ L a w, Hand R J l a0 w0 F i o L a w → a.tmps.getD d undef = undef)
    (h : ∀ L a w, Hand R J l a0 w0 F i o L a w → F i undef w ∧ J (upd L i) w) : StepOK R J P l.toArray Q a0 w0 F i o := StepOK.of fun L a w hh => by
  unfold slotOf at hd
  obtain ⟨oj, hj, hd⟩ := Option.bind_eq_some_iff.1 hd
  have := yielded_undef (ops := l.toArray) (b := b) (by simpa using hj) hd (hb L a w hh)
  rw [if_neg (by simp only [Region.wanted, hg]; simpa using this)]
  exact h L a w hh
/-- what is said of an operation's value: it stays so while the world goes on -/
structure Say (R : World → World → Prop) where
  p : Value → World → Prop
  mono : ∀ v w w', p v w → R w w' → p v w'
/-- it is v -/
def Say.val (R : World → World → Prop) (v0 : Value) : Say R := ⟨fun v _ => v = v0, fun _ _ _ h _ => h⟩
/-- nothing -/
def Say.any (R : World → World → Prop) : Say R := ⟨fun _ _ => True, fun _ _ _ h _ => h⟩
/-- it is a slice of one cell, that holds u -/
def Say.one (u : Value) : Say (fun w w' => Below w.heap.size w w') := ⟨fun v w => ∃ g, v = .slice (some ⟨g, 0, none⟩) 1 1 ∧ w.cell? ⟨g, 0, none⟩ = some u, fun _ w _ h hb => by
  obtain ⟨g, hv, hc⟩ := h
  exact ⟨g, hv, (hb.cell (World.block_lt_of_cell? w _ hc)).trans hc⟩⟩
def bl (w w' : World) : Prop := Below w.heap.size w w'
theorem bl_refl (w : World) : bl w w := Below.refl _ _
theorem bl_trans (a b c : World) (h : bl a b) (k : bl b c) : bl a c := Below.trans h (Below.mono k h.size)
/-- a region of a list -/
theorem wp_region_hand {l : List Oper} {id : Nat} (R : World → World → Prop) (J : (Nat → Bool) → World → Prop) (hm : P.follows .mixedOrders = true) (hR : ∀ w, R w w) (hT : ∀ a b c, R a b → R b c → R a c) (F : Nat → Value → World → Prop) (hmono : ∀ k v w w', F k v w → R w w' → F k v w') (hchk : chk l a0.tmps.size = true)
    (hD : R w0 w0.drew) (h0 : J (fun _ => false) w0.drew) (hs : AllSteps R J P l.toArray Q a0 w0 F 0 l)
    (hend : ∀ L a w, (∀ i, i < l.length → L i = true) → J L w → a.defers = a0.defers → a.tmps.size = a0.tmps.size → R w0 w → (∀ s, kept l s = true → a.tmps.getD s undef = a0.tmps.getD s undef) →
      (∀ k d, slotOf l k = some d → F k (a.tmps.getD d undef) w) → Q .normal a w) :
    (Code.region id l.toArray true).wp P Q a0 w0 :=
  wp_region_facts hm hR hT F hmono hchk hD h0 hs fun L a w hL hJ h1 h2 h3 h4 h5 => hend L a w hL hJ h1 h2 h3 (fun s hs => h4 s (kept_spec hs)) fun k d hd => by
    unfold slotOf at hd
    obtain ⟨ok, ho, hd⟩ := Option.bind_eq_some_iff.1 hd
    exact h5 k ok d ho hd

/-- what was yielded, laid slot by slot -/
def putAll (a : Act) : List (Tmp × Value) → Act
  | [] => a
  | (d, v) :: r => putAll (a.put (some d) v) r
theorem putAll_get (val : Tmp → Value) : ∀ (ds : List Tmp) (a : Act), (putAll a (ds.map fun d => (d, val d))).tmps.size = a.tmps.size ∧ (putAll a (ds.map fun d => (d, val d))).defers = a.defers ∧
    ∀ s, s < a.tmps.size → (putAll a (ds.map fun d => (d, val d))).tmps.getD s undef = if s ∈ ds then val s else a.tmps.getD s undef
  | [], a => ⟨rfl, rfl, fun s _ => by simp [putAll]⟩
  | d :: ds, a => by
    obtain ⟨h1, h2, h3⟩ := putAll_get val ds (a.put (some d) (val d))
    have hsz : (a.put (some d) (val d)).tmps.size = a.tmps.size := by simp [Act.put]
    have hdf : (a.put (some d) (val d)).defers = a.defers := rfl
    refine ⟨h1.trans hsz, h2.trans hdf, fun s hs => ?_⟩
    have h4 := h3 s (by rw [hsz]; exact hs)
    show (putAll (a.put (some d) (val d)) (ds.map fun d => (d, val d))).tmps.getD s undef = _
    rw [h4]
    by_cases hm : s ∈ ds
    · simp [hm]
    · by_cases he : s = d
      · subst he
        simp only [hm, if_false, List.mem_cons, true_or, if_true]
        exact getD_set_same _ _ _ hs
      · simp only [hm, if_false, List.mem_cons, he, or_self]
        exact getD_set_ne _ _ _ _ (fun e => he e.symm)
theorem putAll_eq {l : List Oper} {a a0 : Act} (hsz : a.tmps.size = a0.tmps.size) (hdef : a.defers = a0.defers) (hold : ∀ s, kept l s = true → a.tmps.getD s undef = a0.tmps.getD s undef) :
    a = putAll a0 ((l.filterMap (·.dst)).map fun d => (d, a.tmps.getD d undef)) := by
  obtain ⟨h1, h2, h3⟩ := putAll_get (fun d => a.tmps.getD d undef) (l.filterMap (·.dst)) a0
  generalize putAll a0 ((l.filterMap (·.dst)).map fun d => (d, a.tmps.getD d undef)) = b at *
  obtain ⟨at_, ad⟩ := a
  obtain ⟨bt, bd⟩ := b
  simp only at h1 h2 h3 hsz hdef hold
  have e1 : at_ = bt := by
    apply Array.ext (by omega)
    intro i hi hi2
    have h4 := h3 i (by omega)
    have g1 : at_.getD i undef = at_[i] := by simp [Array.getD_eq_getD_getElem?, hi]
    have g2 : bt.getD i undef = bt[i] := by simp [Array.getD_eq_getD_getElem?, hi2]
    have key : at_.getD i undef = bt.getD i undef := by
      rw [h4]
      by_cases hn : i ∈ l.filterMap (·.dst)
      · rw [if_pos hn]
      · rw [if_neg hn]
        refine hold i ?_
        unfold kept
        rw [List.all_eq_true]
        intro o ho
        cases hd : o.dst with
        | none => rfl
        | some d =>
          simp only [bne_iff_ne, ne_eq]
          intro e
          exact hn (List.mem_filterMap.2 ⟨o, ho, by rw [hd, e]⟩)
    rw [g1, g2] at key
    exact key
  rw [e1, hdef.trans h2.symm]
/-- a region of a list; what is behind it goes on with the slots laid -/
theorem wp_region_put {l : List Oper} {id : Nat} (R : World → World → Prop) (J : (Nat → Bool) → World → Prop) (ds : List Tmp) (hm : P.follows .mixedOrders = true) (hds : l.filterMap (·.dst) = ds) (hR : ∀ w, R w w) (hT : ∀ a b c, R a b → R b c → R a c) (F : Nat → Value → World → Prop) (hmono : ∀ k v w w', F k v w → R w w' → F k v w') (hchk : chk l a0.tmps.size = true)
    (hD : R w0 w0.drew) (h0 : J (fun _ => false) w0.drew) (hs : AllSteps R J P l.toArray Q a0 w0 F 0 l)
    (hend : ∀ (L : Nat → Bool) (w : World) (val : Tmp → Value), (∀ i, i < l.length → L i = true) → J L w → R w0 w → (∀ k d, slotOf l k = some d → F k (val d) w) → Q .normal (putAll a0 (ds.map fun d => (d, val d))) w) :
    (Code.region id l.toArray true).wp P Q a0 w0 := by
  refine wp_region_hand R J hm hR hT F hmono hchk hD h0 hs fun L a w hL hJ h1 h2 h3 h4 h5 => ?_
  have e := putAll_eq h2 h1 h4
  rw [hds] at e
  have := hend L w (fun d => a.tmps.getD d undef) hL hJ h3 h5
  rw [← e] at this
  exact this
/-- the whole stays, and nothing more is said -/
def noJ (_ : Nat → Bool) (_ : World) : Prop := True
theorem noJ_ok (L : Nat → Bool) (w : World) : noJ L w := trivial
/-! ### A region that is gone through in its own order: the same steps serve -/
theorem list_of_inv {l : List Oper} (hR : ∀ w, R w w) (hT : ∀ a b c, R a b → R b c → R a c) (hmono : ∀ k v w w', F k v w → R w w' → F k v w') (hnd : (l.filterMap (·.dst)).Nodup) (hin : ∀ o ∈ l, ∀ d, o.dst = some d → d < a0.tmps.size)
    (hback : ∀ (i : Nat) (o : Oper), l.toArray[i]? = some o → ∀ e ∈ o.after, Region.binds .any e = true → e.on < i) (hs : ∀ (i : Nat) (o : Oper), l.toArray[i]? = some o → StepOK R J P l.toArray Q a0 w0 F i o)
    (hend : ∀ L a w, (∀ i, i < l.toArray.size → L i = true) → J L w → a.defers = a0.defers → a.tmps.size = a0.tmps.size → R w0 w → (∀ s, (∀ o ∈ l.toArray.toList, o.dst ≠ some s) → a.tmps.getD s undef = a0.tmps.getD s undef) →
      (∀ (k : Nat) (o : Oper) (d : Tmp), l.toArray[k]? = some o → o.dst = some d → F k (a.tmps.getD d undef) w) → Q .normal a w) :
    ∀ (suf pre : List Oper) (listed : Array Bool) (a : Act) (w : World), l = pre ++ suf → Inv R J l.toArray a0 w0 F listed a w → (∀ i, i < l.length → listed.getD i false = decide (i < pre.length)) → wpList P l.toArray Q suf a w := by
  intro suf
  induction suf with
  | nil =>
    intro pre listed a w hl h hlist
    have hall : ∀ i, i < l.toArray.size → listed.getD i false = true := fun i hi => by
      have hi' : i < l.length := by simpa using hi
      rw [hlist i hi', decide_eq_true]
      rw [hl, List.append_nil] at hi'
      exact hi'
    exact hend _ a w hall h.st h.defers h.tmps h.rel h.old fun k o d hk hd => h.facts k o d hk hd (hall k (by
      rcases Nat.lt_or_ge k l.toArray.size with hlt | hge
      · exact hlt
      · rw [Array.getElem?_eq_none hge] at hk; cases hk))
  | cons o suf ih =>
    intro pre listed a w hl h hlist
    have hlt : pre.length < l.length := by rw [hl, List.length_append, List.length_cons]; omega
    have ho : l.toArray[pre.length]? = some o := by
      rw [List.getElem?_toArray, hl, List.getElem?_append_right (Nat.le_refl _), Nat.sub_self]
      rfl
    have hup : ∀ e ∈ o.after, Region.binds .any e = true → listed.getD e.on false = true := fun e he hb => by
      have := hback _ o ho e he hb
      rw [hlist e.on (by omega), decide_eq_true this]
    have hst := hs pre.length o ho (fun k => listed.getD k false) a w h.defers h.rel h.st (by
      show listed.getD pre.length false = false
      rw [hlist _ hlt, decide_eq_false (Nat.lt_irrefl _)]) h.old hup (fun e he hb ok d hok hd => h.facts e.on ok d hok hd (hup e he hb))
    have hl' : l = (pre ++ [o]) ++ suf := by rw [hl, List.append_assoc]; rfl
    have hsz : pre.length < listed.size := by rw [h.size]; simpa using hlt
    have hlist' : ∀ i, i < l.length → (listed.setIfInBounds pre.length true).getD i false = decide (i < (pre ++ [o]).length) := fun i hi => by
      have e : (listed.setIfInBounds pre.length true).getD i false = upd (fun k => listed.getD k false) pre.length i := congrFun (upd_set hsz) i
      rw [e]
      show (Nat.beq i pre.length || listed.getD i false) = _
      rw [hlist i hi, List.length_append, List.length_singleton]
      by_cases hi2 : i = pre.length
      · rw [hi2, show Nat.beq pre.length pre.length = true from Nat.beq_refl _, Bool.true_or, decide_eq_true (by omega)]
      · have hb : Nat.beq i pre.length = false := by
          cases hbb : Nat.beq i pre.length with
          | false => rfl
          | true => exact absurd (Nat.eq_of_beq_eq_true hbb) hi2
        rw [hb, Bool.false_or]
        congr 1
        exact propext ⟨fun h => by omega, fun h => by omega⟩
    unfold wpList
    split
    · rename_i hw
      rw [if_pos hw] at hst
      refine .inl (Oper.wp_mono (fun a' w' hh => ?_) hst)
      obtain ⟨v, rfl, hb, hF, hJ⟩ := hh
      exact ih (pre ++ [o]) _ _ _ hl' (h.step hT hmono (by simpa using hnd) (by simpa using hin) ho hb hF hJ) hlist'
    · rename_i hw
      rw [if_neg hw] at hst
      exact ih (pre ++ [o]) _ _ _ hl' (h.step hT hmono (by simpa using hnd) (by simpa using hin) ho (hR _) hst.1 hst.2) hlist'
/-- a region in its own order; what is behind it goes on with the slots laid -/
theorem wp_region_seq {l : List Oper} {id : Nat} (R : World → World → Prop) (J : (Nat → Bool) → World → Prop) (ds : List Tmp) (hds : l.filterMap (·.dst) = ds) (hR : ∀ w, R w w) (hT : ∀ a b c, R a b → R b c → R a c) (F : Nat → Value → World → Prop) (hmono : ∀ k v w w', F k v w → R w w' → F k v w') (hchk : chk l a0.tmps.size = true)
    (h0 : J (fun _ => false) w0) (hs : AllSteps R J P l.toArray Q a0 w0 F 0 l)
    (hend : ∀ (L : Nat → Bool) (w : World) (val : Tmp → Value), (∀ i, i < l.length → L i = true) → J L w → R w0 w → (∀ k d, slotOf l k = some d → F k (val d) w) → Q .normal (putAll a0 (ds.map fun d => (d, val d))) w) :
    (Code.region id l.toArray false).wp P Q a0 w0 := by
  unfold chk at hchk
  simp only [Bool.and_eq_true, decide_eq_true_eq] at hchk
  obtain ⟨⟨h1, h2⟩, h3⟩ := hchk
  have hback : ∀ (i : Nat) (o : Oper), l.toArray[i]? = some o → ∀ e ∈ o.after, Region.binds .any e = true → e.on < i := by
    intro i o ho e he hb
    rw [List.all_eq_true] at h1
    have := h1 (o, i) (List.mem_zipIdx_iff_getElem?.2 (by simpa using ho))
    rw [Array.all_eq_true_iff_forall_mem] at this
    have h5 := this e he
    rw [hb] at h5
    simpa using h5
  have hin : ∀ o ∈ l, ∀ d, o.dst = some d → d < a0.tmps.size := by
    intro o ho d hd
    rw [List.all_eq_true] at h3
    have := h3 o ho
    rw [hd] at this
    simpa using this
  refine wp_region_lit (list_of_inv (R := R) (J := J) (F := F) (a0 := a0) (w0 := w0) hR hT hmono h2 hin hback (fun i o ho => ?_) (fun L a w hL hJ h4 h5 h6 h7 h8 => ?_) l [] (Array.replicate l.length false) a0 w0 rfl ?_ ?_)
  · have := hs.at_ i o (by simpa using ho)
    rw [Nat.zero_add] at this
    exact this
  · have e := putAll_eq (l := l) h5 h4 (fun s hs => h7 s (by simpa using kept_spec hs))
    rw [hds] at e
    have := hend L w (fun d => a.tmps.getD d undef) (by simpa using hL) hJ h6 (fun k d hd => by
      unfold slotOf at hd
      obtain ⟨ok, ho, hd⟩ := Option.bind_eq_some_iff.1 hd
      exact h8 k ok d (by simpa using ho) hd)
    rw [← e] at this
    exact this
  · have hL : (fun k => (Array.replicate l.length false).getD k false) = fun _ => false := by
      funext k
      simp [Array.getD_eq_getD_getElem?, Array.getElem?_replicate]
      split <;> rfl
    refine ⟨by simp, rfl, rfl, hR _, by rw [hL]; exact h0, fun _ _ => rfl, fun k o d hk hd hl => ?_⟩
    exfalso
    simp [Array.getD_eq_getD_getElem?, Array.getElem?_replicate] at hl
    split at hl <;> simp at hl
  · intro i hi
    simp [Array.getD_eq_getD_getElem?, hi]
end
end Go.Proofs.Ytokochkjjlbnkaa.regs
