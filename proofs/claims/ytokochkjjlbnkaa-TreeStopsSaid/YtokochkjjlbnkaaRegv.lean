/-
  A region that draws its order, as in Regs; here J, how the world stands, may also speak of what the slots hold.
-/
import Derived.Test.YtokochkjjlbnkaaRegs
namespace Go.Proofs.Ytokochkjjlbnkaa.regv
open Go.RowKit regs

section
variable {P : Program} {ops : Array Oper} {Q : Exit → Act → World → Prop}
/-- what the slots hold -/
def sl (a : Act) (s : Tmp) : Value := a.tmps.getD s undef
theorem sl_ne {t : Array Value} {d s : Nat} {v : Value} {df df' : _} (h : d ≠ s) : sl ⟨t.setIfInBounds d v, df⟩ s = sl ⟨t, df'⟩ s := regs.getD_set_ne t d s v h
theorem sl_same {t : Array Value} {d : Nat} {v : Value} {df : _} (h : d < t.size) : sl ⟨t.setIfInBounds d v, df⟩ d = v := regs.getD_set_same t d v h
/-- how the world goes on: R; it stands as J says, by which operations have come up -/
structure Inv (R : World → World → Prop) (J : (Nat → Bool) → (Tmp → Value) → World → Prop) (ops : Array Oper) (a0 : Act) (w0 : World) (F : Nat → Value → World → Prop) (listed : Array Bool) (a : Act) (w : World) : Prop where
  size : listed.size = ops.size
  tmps : a.tmps.size = a0.tmps.size
  defers : a.defers = a0.defers
  rel : R w0 w
  st : J (fun k => listed.getD k false) (sl a) w
  old : ∀ s, (∀ o ∈ ops.toList, o.dst ≠ some s) → a.tmps.getD s undef = a0.tmps.getD s undef
  facts : ∀ (k : Nat) (o : Oper) (d : Tmp), ops[k]? = some o → o.dst = some d → listed.getD k false = true → F k (a.tmps.getD d undef) w

/-- one operation, when it comes up -/
def StepOK (R : World → World → Prop) (J : (Nat → Bool) → (Tmp → Value) → World → Prop) (P : Program) (ops : Array Oper) (Q : Exit → Act → World → Prop) (a0 : Act) (w0 : World) (F : Nat → Value → World → Prop) (i : Nat) (o : Oper) : Prop :=
  ∀ (L : Nat → Bool) (a : Act) (w : World), a.defers = a0.defers → a.tmps.size = a0.tmps.size → R w0 w → J L (sl a) w → L i = false → (∀ s, (∀ o ∈ ops.toList, o.dst ≠ some s) → a.tmps.getD s undef = a0.tmps.getD s undef) →
    (∀ e ∈ o.after, Region.binds .any e = true → L e.on = true) →
    (∀ e ∈ o.after, Region.binds .any e = true → ∀ (ok : Oper) (d : Tmp), ops[e.on]? = some ok → ok.dst = some d → F e.on (a.tmps.getD d undef) w) →
    if Region.wanted o (yielded ops a.tmps) = true then o.wp P a w (fun a' w' => ∃ v, a' = a.put o.dst v ∧ R w w' ∧ F i v w' ∧ J (upd L i) (sl (a.put o.dst v)) w') Q else F i undef w ∧ J (upd L i) (sl (a.put o.dst undef)) w

def AllSteps (R : World → World → Prop) (J : (Nat → Bool) → (Tmp → Value) → World → Prop) (P : Program) (ops : Array Oper) (Q : Exit → Act → World → Prop) (a0 : Act) (w0 : World) (F : Nat → Value → World → Prop) : Nat → List Oper → Prop
  | _, [] => True
  | i, o :: l => StepOK R J P ops Q a0 w0 F i o ∧ AllSteps R J P ops Q a0 w0 F (i + 1) l
theorem AllSteps.at_ {R : World → World → Prop} {J : (Nat → Bool) → (Tmp → Value) → World → Prop} {a0 : Act} {w0 : World} {F : Nat → Value → World → Prop} : ∀ {l : List Oper} {n : Nat}, AllSteps R J P ops Q a0 w0 F n l → ∀ (i : Nat) (o : Oper), l[i]? = some o → StepOK R J P ops Q a0 w0 F (n + i) o
  | [], _, _, i, o, h => by simp at h
  | x :: l, n, hs, i, o, h => by
    cases i with
    | zero =>
      simp only [List.getElem?_cons_zero, Option.some.injEq] at h
      subst h
      exact hs.1
    | succ i =>
      have := hs.2.at_ i o (by simpa using h)
      rw [show n + (i + 1) = n + 1 + i by omega]
      exact this

variable {R : World → World → Prop} {J : (Nat → Bool) → (Tmp → Value) → World → Prop} {a0 : Act} {w0 : World} {F : Nat → Value → World → Prop}

theorem Inv.step (hT : ∀ a b c, R a b → R b c → R a c) (hmono : ∀ k v w w', F k v w → R w w' → F k v w') (hnd : (ops.toList.filterMap (·.dst)).Nodup) (hin : ∀ o ∈ ops.toList, ∀ d, o.dst = some d → d < a0.tmps.size)
    {listed : Array Bool} {a : Act} {w w' : World} (h : Inv R J ops a0 w0 F listed a w) {i : Nat} {o : Oper} (ho : ops[i]? = some o) {v : Value} (hb : R w w') (hF : F i v w') (hJ : J (upd (fun k => listed.getD k false) i) (sl (a.put o.dst v)) w') :
    Inv R J ops a0 w0 F (listed.setIfInBounds i true) (a.put o.dst v) w' := by
  have hmem : o ∈ ops.toList := by
    rw [← Array.getElem?_toList] at ho
    exact List.mem_of_getElem? ho
  have hil : i < listed.size := by
    rw [h.size]
    exact (Array.getElem?_eq_some_iff.1 ho).1
  refine ⟨by simpa using h.size, ?_, ?_, hT _ _ _ h.rel hb, by rw [upd_set hil]; exact hJ, fun s hs => ?_, fun k ok d hk hd hl => ?_⟩
  · unfold Act.put
    split <;> simp [h.tmps]
  · unfold Act.put
    split <;> simp [h.defers]
  · unfold Act.put
    split
    · rename_i d hd
      simp only
      rw [regs.getD_set_ne _ _ _ _ (fun e => hs o hmem (by rw [hd, e]))]
      exact h.old s hs
    · exact h.old s hs
  · by_cases hik : i = k
    · subst hik
      obtain rfl : o = ok := Option.some.inj (ho.symm.trans hk)
      unfold Act.put
      rw [hd]
      simp only
      rw [regs.getD_set_same _ _ _ (by rw [h.tmps]; exact hin o hmem d hd)]
      exact hF
    · have hl' : listed.getD k false = true := by
        simpa [Array.getD_eq_getD_getElem?, Array.getElem?_setIfInBounds, hik] using hl
      have hf := hmono _ _ _ _ (h.facts k ok d hk hd hl') hb
      unfold Act.put
      split
      · rename_i d' hd'
        simp only
        rw [regs.getD_set_ne _ _ _ _ (fun e => hik (nodup_at hnd (by rw [Array.getElem?_toList]; exact ho) (by rw [Array.getElem?_toList]; exact hk) (by rw [hd', e]) hd))]
        exact hf
      · exact hf

theorem any_of_inv (hR : ∀ w, R w w) (hT : ∀ a b c, R a b → R b c → R a c) (hmono : ∀ k v w w', F k v w → R w w' → F k v w') (hnd : (ops.toList.filterMap (·.dst)).Nodup) (hin : ∀ o ∈ ops.toList, ∀ d, o.dst = some d → d < a0.tmps.size)
    (hback : ∀ (i : Nat) (o : Oper), ops[i]? = some o → ∀ e ∈ o.after, Region.binds .any e = true → e.on < i) (hs : ∀ (i : Nat) (o : Oper), ops[i]? = some o → StepOK R J P ops Q a0 w0 F i o)
    (hend : ∀ L a w, (∀ i, i < ops.size → L i = true) → J L (sl a) w → a.defers = a0.defers → a.tmps.size = a0.tmps.size → R w0 w → (∀ s, (∀ o ∈ ops.toList, o.dst ≠ some s) → a.tmps.getD s undef = a0.tmps.getD s undef) →
      (∀ (k : Nat) (o : Oper) (d : Tmp), ops[k]? = some o → o.dst = some d → F k (a.tmps.getD d undef) w) → Q .normal a w) :
    ∀ (fuel : Nat) (listed : Array Bool) (a : Act) (w : World), listed.toList.count false ≤ fuel → Inv R J ops a0 w0 F listed a w → wpAny P .any ops Q fuel listed a w := by
  have stop : ∀ (listed : Array Bool) (a : Act) (w : World), Inv R J ops a0 w0 F listed a w → Region.ready .any ops listed = [] → Q .normal a w := fun listed a w h hr =>
    hend _ a w (ready_of_least h.size hback hr) h.st h.defers h.tmps h.rel h.old fun k o d hk hd => h.facts k o d hk hd (ready_of_least h.size hback hr k (by
      rcases Nat.lt_or_ge k ops.size with hlt | hge
      · exact hlt
      · rw [Array.getElem?_eq_none hge] at hk; cases hk))
  intro fuel
  induction fuel with
  | zero =>
    intro listed a w hc h
    have hr : Region.ready .any ops listed = [] := by
      unfold Region.ready
      rw [List.filter_eq_nil_iff]
      intro i hi
      have hi' : i < listed.size := by rw [h.size]; simpa using hi
      have hno : false ∉ listed.toList := List.count_eq_zero.1 (by omega)
      have : listed.getD i true = true := by
        simp only [Array.getD_eq_getD_getElem?, Array.getElem?_eq_getElem hi', Option.getD_some]
        cases hb : listed[i] with
        | true => rfl
        | false => exact absurd (by rw [← hb]; exact Array.getElem_mem_toList hi') hno
      rw [this]
      simp
    exact ⟨hr, stop listed a w h hr⟩
  | succ fuel ih =>
    intro listed a w hc h
    refine ⟨stop listed a w h, fun i hi => ?_⟩
    unfold Region.ready at hi
    rw [List.mem_filter] at hi
    obtain ⟨hi1, hi2⟩ := hi
    have hi' : i < ops.size := by simpa using hi1
    have hil : i < listed.size := by rw [h.size]; exact hi'
    have ho : ops[i]? = some ops[i] := by simp [hi']
    rw [ho] at hi2
    simp only [Option.map_some, Option.getD_some, Bool.and_eq_true, Bool.not_eq_true', Array.all_eq_true_iff_forall_mem, Bool.or_eq_true] at hi2
    obtain ⟨hun, hdeps⟩ := hi2
    have hst := hs i _ ho (fun k => listed.getD k false) a w h.defers h.tmps h.rel h.st (by
      simp only [Array.getD_eq_getD_getElem?, Array.getElem?_eq_getElem hil, Option.getD_some] at hun ⊢
      exact hun) h.old (fun e he hb => by
      rcases hdeps e he with hx | hx
      · rw [hb] at hx; cases hx
      · exact hx) (fun e he hb ok d hok hd => h.facts e.on ok d hok hd (by
      rcases hdeps e he with hx | hx
      · rw [hb] at hx; cases hx
      · exact hx))
    have hcnt : (listed.setIfInBounds i true).toList.count false ≤ fuel := by
      have hf : listed.toList[i]'(by simpa using hil) = false := by
        simp only [Array.getD_eq_getD_getElem?, Array.getElem?_eq_getElem hil, Option.getD_some] at hun
        simpa using hun
      rw [Array.toList_setIfInBounds, List.count_set (by simpa using hil), hf]
      show List.count false listed.toList - 1 + 0 ≤ fuel
      omega
    unfold wpOp
    rw [ho]
    simp only
    split
    · rename_i hw
      rw [if_pos hw] at hst
      refine .inl (Oper.wp_mono (fun a' w' hh => ?_) hst)
      obtain ⟨v, rfl, hb, hF, hJ⟩ := hh
      exact ih _ _ _ hcnt (h.step hT hmono hnd hin ho hb hF hJ)
    · rename_i hw
      rw [if_neg hw] at hst
      exact ih _ _ _ hcnt (h.step hT hmono hnd hin ho (hR _) hst.1 hst.2)

/-- THE REGION: in whichever order its operations come up -/
theorem wp_region_facts {l : List Oper} {id : Nat} (hm : P.follows .mixedOrders = true) (hR : ∀ w, R w w) (hT : ∀ a b c, R a b → R b c → R a c) (F : Nat → Value → World → Prop) (hmono : ∀ k v w w', F k v w → R w w' → F k v w') (hchk : chk l a0.tmps.size = true)
    (hD : R w0 w0.drew) (h0 : J (fun _ => false) (sl a0) w0.drew) (hs : AllSteps R J P l.toArray Q a0 w0 F 0 l)
    (hend : ∀ L a w, (∀ i, i < l.length → L i = true) → J L (sl a) w → a.defers = a0.defers → a.tmps.size = a0.tmps.size → R w0 w → (∀ s, (∀ o ∈ l, o.dst ≠ some s) → a.tmps.getD s undef = a0.tmps.getD s undef) →
      (∀ (k : Nat) (o : Oper) (d : Tmp), l[k]? = some o → o.dst = some d → F k (a.tmps.getD d undef) w) → Q .normal a w) :
    (Code.region id l.toArray true).wp P Q a0 w0 := by
  unfold chk at hchk
  simp only [Bool.and_eq_true, decide_eq_true_eq] at hchk
  obtain ⟨⟨h1, h2⟩, h3⟩ := hchk
  have hback : ∀ (i : Nat) (o : Oper), l.toArray[i]? = some o → ∀ e ∈ o.after, Region.binds .any e = true → e.on < i := by
    intro i o ho e he hb
    rw [List.all_eq_true] at h1
    have := h1 (o, i) (List.mem_zipIdx_iff_getElem?.2 (by simpa using ho))
    rw [Array.all_eq_true_iff_forall_mem] at this
    have h5 := this e he
    rw [hb] at h5
    simpa using h5
  have hin : ∀ o ∈ l, ∀ d, o.dst = some d → d < a0.tmps.size := by
    intro o ho d hd
    rw [List.all_eq_true] at h3
    have := h3 o ho
    rw [hd] at this
    simpa using this
  refine wp_region_any hm (any_of_inv (R := R) (J := J) (F := F) (a0 := a0) (w0 := w0) hR hT hmono h2 hin hback (fun i o ho => ?_) (fun L a w hL hJ h4 h5 h6 h7 h8 => hend L a w (by simpa using hL) hJ h4 h5 h6 h7 fun k o d hk hd => h8 k o d (by simpa using hk) hd) _ _ _ _ ?_ ?_)
  · have := hs.at_ i o (by simpa using ho)
    rw [Nat.zero_add] at this
    exact this
  · simp
  · have hL : (fun k => (Array.replicate l.toArray.size false).getD k false) = fun _ => false := by
      funext k
      simp [Array.getD_eq_getD_getElem?, Array.getElem?_replicate]
      split <;> rfl
    refine ⟨by simp, rfl, rfl, hD, by rw [hL]; exact h0, fun _ _ => rfl, fun k o d hk hd hl => ?_⟩
    exfalso
    simp [Array.getD_eq_getD_getElem?, Array.getElem?_replicate] at hl
    split at hl <;> simp at hl

/-- what is at hand when an operation comes up: old slots, the facts of those that it waits for -/
structure Hand (R : World → World → Prop) (J : (Nat → Bool) → (Tmp → Value) → World → Prop) (l : List Oper) (a0 : Act) (w0 : World) (F : Nat → Value → World → Prop) (i : Nat) (o : Oper) (L : Nat → Bool) (a : Act) (w : World) : Prop where
  defers : a.defers = a0.defers
  size : a.tmps.size = a0.tmps.size
  rel : R w0 w
  st : J L (sl a) w
  un : L i = false
  old : ∀ s, kept l s = true → a.tmps.getD s undef = a0.tmps.getD s undef
  up : ∀ k, waits o k = true → L k = true
  dep : ∀ k d, waits o k = true → slotOf l k = some d → F k (a.tmps.getD d undef) w
theorem StepOK.of {l : List Oper} {i : Nat} {o : Oper}
    (h : ∀ L a w, Hand R J l a0 w0 F i o L a w → if Region.wanted o (yielded l.toArray a.tmps) = true then o.wp P a w (fun a' w' => ∃ v, a' = a.put o.dst v ∧ R w w' ∧ F i v w' ∧ J (upd L i) (sl (a.put o.dst v)) w') Q else F i undef w ∧ J (upd L i) (sl (a.put o.dst undef)) w) :
    StepOK R J P l.toArray Q a0 w0 F i o := fun L a w h1 hz h2 h3 h3u h4 h5 h6 => h L a w ⟨h1, hz, h2, h3, h3u, fun s hs => h4 s (by simpa using kept_spec hs), fun k hw => by
  unfold waits at hw
  rw [Array.any_eq_true'] at hw
  obtain ⟨e, he, hb⟩ := hw
  simp only [Bool.and_eq_true, beq_iff_eq] at hb
  obtain ⟨hk, hb⟩ := hb
  subst hk
  exact h5 e he hb, fun k d hw hd => by
  unfold waits at hw
  rw [Array.any_eq_true'] at hw
  obtain ⟨e, he, hb⟩ := hw
  simp only [Bool.and_eq_true, beq_iff_eq] at hb
  obtain ⟨hk, hb⟩ := hb
  unfold slotOf at hd
  obtain ⟨ok, ho, hd'⟩ := Option.bind_eq_some_iff.1 hd
  subst hk
  exact h6 e he hb ok d (by simpa using ho) hd'⟩
/-- an operation without a guard -/
theorem StepOK.plain {l : List Oper} {i : Nat} {o : Oper} (hg : o.guard = none) (h : ∀ L a w, Hand R J l a0 w0 F i o L a w → o.wp P a w (fun a' w' => ∃ v, a' = a.put o.dst v ∧ R w w' ∧ F i v w' ∧ J (upd L i) (sl (a.put o.dst v)) w') Q) :
    StepOK R J P l.toArray Q a0 w0 F i o := StepOK.of fun L a w hh => by
  rw [if_pos (by simp [Region.wanted, hg])]
  exact h L a w hh
/-- an operation whose guard says yes -/
theorem StepOK.yes {l : List Oper} {i : Nat} {o : Oper} (j : Nat) (b : Bool) (d : Tmp) (hg : o.guard = some (j, b)) (hd : slotOf l j = some d) (hb : ∀ L a w, Hand R J l a0 w0 F i o L a w → a.tmps.getD d undef = .bool b)
    (h : ∀ L a w, Hand R J l a0 w0 F i o L a w → o.wp P a w (fun a' w' => ∃ v, a' = a.put o.dst v ∧ R w w' ∧ F i v w' ∧ J (upd L i) (sl (a.put o.dst v)) w') Q) : StepOK R J P l.toArray Q a0 w0 F i o := StepOK.of fun L a w hh => by
  unfold slotOf at hd
  obtain ⟨oj, hj, hd⟩ := Option.bind_eq_some_iff.1 hd
  have := yielded_of (ops := l.toArray) (by simpa using hj) hd (hb L a w hh)
  rw [if_pos (by simp [Region.wanted, hg, this])]
  exact h L a w hh
/-- an operation whose guard says no -/
theorem StepOK.no {l : List Oper} {i : Nat} {o : Oper} (j : Nat) (b : Bool) (d : Tmp) (hg : o.guard = some (j, b)) (hd : slotOf l j = some d) (hb : ∀ L a w, Hand R J l a0 w0 F i o L a w → a.tmps.getD d undef = .bool (!b))
    (h : ∀ L a w, Hand R J l a0 w0 F i o L a w → F i undef w ∧ J (upd L i) (sl (a.put o.dst undef)) w) : StepOK R J P l.toArray Q a0 w0 F i o := StepOK.of fun L a w hh => by
  unfold slotOf at hd
  obtain ⟨oj, hj, hd⟩ := Option.bind_eq_some_iff.1 hd
  have := yielded_of (ops := l.toArray) (by simpa using hj) hd (hb L a w hh)
  rw [if_neg (by simp [Region.wanted, hg, this])]
  exact h L a w hh
/-- an operation whose guard was not taken itself -/
theorem StepOK.out_ {l : List Oper} {i : Nat} {o : Oper} (j : Nat) (b : Bool) (d : Tmp) (hg : o.guard = some (j, b)) (hd : slotOf l j = some d) (hb : ∀ L a w, Hand R J l a0 w0 F i o L a w → a.tmps.getD d undef = undef)
    (h : ∀ L a w, Hand R J l a0 w0 F i o L a w → F i undef w ∧ J (upd L i) (sl (a.put o.dst undef)) w) : StepOK R J P l.toArray Q a0 w0 F i o := StepOK.of fun L a w hh => by
  unfold slotOf at hd
  obtain ⟨oj, hj, hd⟩ := Option.bind_eq_some_iff.1 hd
  have := yielded_undef (ops := l.toArray) (b := b) (by simpa using hj) hd (hb L a w hh)
  rw [if_neg (by simp only [Region.wanted, hg]; simpa using this)]
  exact h L a w hh
/-- a region of a list -/
theorem wp_region_hand {l : List Oper} {id : Nat} (R : World → World → Prop) (J : (Nat → Bool) → (Tmp → Value) → World → Prop) (hm : P.follows .mixedOrders = true) (hR : ∀ w, R w w) (hT : ∀ a b c, R a b → R b c → R a c) (F : Nat → Value → World → Prop) (hmono : ∀ k v w w', F k v w → R w w' → F k v w') (hchk : chk l a0.tmps.size = true)
    (hD : R w0 w0.drew) (h0 : J (fun _ => false) (sl a0) w0.drew) (hs : AllSteps R J P l.toArray Q a0 w0 F 0 l)
    (hend : ∀ L a w, (∀ i, i < l.length → L i = true) → J L (sl a) w → a.defers = a0.defers → a.tmps.size = a0.tmps.size → R w0 w → (∀ s, kept l s = true → a.tmps.getD s undef = a0.tmps.getD s undef) →
      (∀ k d, slotOf l k = some d → F k (a.tmps.getD d undef) w) → Q .normal a w) :
    (Code.region id l.toArray true).wp P Q a0 w0 :=
  wp_region_facts hm hR hT F hmono hchk hD h0 hs fun L a w hL hJ h1 h2 h3 h4 h5 => hend L a w hL hJ h1 h2 h3 (fun s hs => h4 s (kept_spec hs)) fun k d hd => by
    unfold slotOf at hd
    obtain ⟨ok, ho, hd⟩ := Option.bind_eq_some_iff.1 hd
    exact h5 k ok d ho hd

/-- a region of a list; what is behind it goes on with the slots laid -/
theorem wp_region_put {l : List Oper} {id : Nat} (R : World → World → Prop) (J : (Nat → Bool) → (Tmp → Value) → World → Prop) (ds : List Tmp) (hm : P.follows .mixedOrders = true) (hds : l.filterMap (·.dst) = ds) (hR : ∀ w, R w w) (hT : ∀ a b c, R a b → R b c → R a c) (F : Nat → Value → World → Prop) (hmono : ∀ k v w w', F k v w → R w w' → F k v w') (hchk : chk l a0.tmps.size = true)
    (hD : R w0 w0.drew) (h0 : J (fun _ => false) (sl a0) w0.drew) (hs : AllSteps R J P l.toArray Q a0 w0 F 0 l)
    (hend : ∀ (L : Nat → Bool) (w : World) (val : Tmp → Value), (∀ i, i < l.length → L i = true) → J L val w → R w0 w → (∀ k d, slotOf l k = some d → F k (val d) w) → Q .normal (putAll a0 (ds.map fun d => (d, val d))) w) :
    (Code.region id l.toArray true).wp P Q a0 w0 := by
  refine wp_region_hand R J hm hR hT F hmono hchk hD h0 hs fun L a w hL hJ h1 h2 h3 h4 h5 => ?_
  have e := putAll_eq h2 h1 h4
  rw [hds] at e
  have := hend L w (fun d => a.tmps.getD d undef) hL hJ h3 h5
  rw [← e] at this
  exact this
end
end Go.Proofs.Ytokochkjjlbnkaa.regv
