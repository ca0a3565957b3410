/-
  A region that draws its order, in a round of a loop over a function: as in Regv.
-/
import Derived.Test.YtokochkjjlbnkaaRegv
import Derived.Test.YtokochkjjlbnkaaIter
namespace Go.Proofs.Ytokochkjjlbnkaa.regvi
open Go.RowKit regs regv itr

section
variable {P : Program} {ops : Array Oper} {Q : Exit → Act → World → Prop} {ln : Nat}
variable {R : World → World → Prop} {J : (Nat → Bool) → (Tmp → Value) → World → Prop} {a0 : Act} {w0 : World} {F : Nat → Value → World → Prop}
theorem any_of_inv (hnd9 : ∀ o ∈ ops.toList, ∀ c, o.op ≠ .defer c) (hR : ∀ w, R w w) (hT : ∀ a b c, R a b → R b c → R a c) (hmono : ∀ k v w w', F k v w → R w w' → F k v w') (hnd : (ops.toList.filterMap (·.dst)).Nodup) (hin : ∀ o ∈ ops.toList, ∀ d, o.dst = some d → d < a0.tmps.size)
    (hback : ∀ (i : Nat) (o : Oper), ops[i]? = some o → ∀ e ∈ o.after, Region.binds .any e = true → e.on < i) (hs : ∀ (i : Nat) (o : Oper), ops[i]? = some o → StepOK R J P ops Q a0 w0 F i o)
    (hend : ∀ L a w, (∀ i, i < ops.size → L i = true) → J L (sl a) w → a.defers = a0.defers → a.tmps.size = a0.tmps.size → R w0 w → (∀ s, (∀ o ∈ ops.toList, o.dst ≠ some s) → a.tmps.getD s undef = a0.tmps.getD s undef) →
      (∀ (k : Nat) (o : Oper) (d : Tmp), ops[k]? = some o → o.dst = some d → F k (a.tmps.getD d undef) w) → Q .normal a w) :
    ∀ (fuel : Nat) (listed : Array Bool) (a : Act) (w : World), listed.toList.count false ≤ fuel → Inv R J ops a0 w0 F listed a w → wpAnyIn (Fence.wide.inRound ln) 0 P .any ops Q fuel listed a w := by
  have stop : ∀ (listed : Array Bool) (a : Act) (w : World), Inv R J ops a0 w0 F listed a w → Region.ready .any ops listed = [] → Q .normal a w := fun listed a w h hr =>
    hend _ a w (ready_of_least h.size hback hr) h.st h.defers h.tmps h.rel h.old fun k o d hk hd => h.facts k o d hk hd (ready_of_least h.size hback hr k (by
      rcases Nat.lt_or_ge k ops.size with hlt | hge
      · exact hlt
      · rw [Array.getElem?_eq_none hge] at hk; cases hk))
  intro fuel
  induction fuel with
  | zero =>
    intro listed a w hc h
    have hr : Region.ready .any ops listed = [] := by
      unfold Region.ready
      rw [List.filter_eq_nil_iff]
      intro i hi
      have hi' : i < listed.size := by rw [h.size]; simpa using hi
      have hno : false ∉ listed.toList := List.count_eq_zero.1 (by omega)
      have : listed.getD i true = true := by
        simp only [Array.getD_eq_getD_getElem?, Array.getElem?_eq_getElem hi', Option.getD_some]
        cases hb : listed[i] with
        | true => rfl
        | false => exact absurd (by rw [← hb]; exact Array.getElem_mem_toList hi') hno
      rw [this]
      simp
    exact ⟨hr, stop listed a w h hr⟩
  | succ fuel ih =>
    intro listed a w hc h
    refine ⟨stop listed a w h, fun i hi => ?_⟩
    unfold Region.ready at hi
    rw [List.mem_filter] at hi
    obtain ⟨hi1, hi2⟩ := hi
    have hi' : i < ops.size := by simpa using hi1
    have hil : i < listed.size := by rw [h.size]; exact hi'
    have ho : ops[i]? = some ops[i] := by simp [hi']
    rw [ho] at hi2
    simp only [Option.map_some, Option.getD_some, Bool.and_eq_true, Bool.not_eq_true', Array.all_eq_true_iff_forall_mem, Bool.or_eq_true] at hi2
    obtain ⟨hun, hdeps⟩ := hi2
    have hst := hs i _ ho (fun k => listed.getD k false) a w h.defers h.tmps h.rel h.st (by
      simp only [Array.getD_eq_getD_getElem?, Array.getElem?_eq_getElem hil, Option.getD_some] at hun ⊢
      exact hun) h.old (fun e he hb => by
      rcases hdeps e he with hx | hx
      · rw [hb] at hx; cases hx
      · exact hx) (fun e he hb ok d hok hd => h.facts e.on ok d hok hd (by
      rcases hdeps e he with hx | hx
      · rw [hb] at hx; cases hx
      · exact hx))
    have hcnt : (listed.setIfInBounds i true).toList.count false ≤ fuel := by
      have hf : listed.toList[i]'(by simpa using hil) = false := by
        simp only [Array.getD_eq_getD_getElem?, Array.getElem?_eq_getElem hil, Option.getD_some] at hun
        simpa using hun
      rw [Array.toList_setIfInBounds, List.count_set (by simpa using hil), hf]
      show List.count false listed.toList - 1 + 0 ≤ fuel
      omega
    unfold wpOpIn
    rw [ho]
    simp only
    split
    · rename_i hw
      rw [if_pos hw] at hst
      refine oper_in (hnd9 _ (by rw [← Array.getElem?_toList] at ho; exact List.mem_of_getElem? ho)) (Oper.wp_mono (fun a' w' hh => ?_) hst)
      obtain ⟨v, rfl, hb, hF, hJ⟩ := hh
      exact ih _ _ _ hcnt (h.step hT hmono hnd hin ho hb hF hJ)
    · rename_i hw
      rw [if_neg hw] at hst
      exact ⟨fun _ _ => trivial, ih _ _ _ hcnt (h.step hT hmono hnd hin ho (hR _) hst.1 hst.2)⟩

/-- THE REGION: in whichever order its operations come up -/
theorem wp_region_facts {l : List Oper} {id : Nat} (hm : P.follows .mixedOrders = true) (hnd9 : noDefer l = true) (hR : ∀ w, R w w) (hT : ∀ a b c, R a b → R b c → R a c) (F : Nat → Value → World → Prop) (hmono : ∀ k v w w', F k v w → R w w' → F k v w') (hchk : chk l a0.tmps.size = true)
    (hD : R w0 w0.drew) (h0 : J (fun _ => false) (sl a0) w0.drew) (hs : AllSteps R J P l.toArray Q a0 w0 F 0 l)
    (hend : ∀ L a w, (∀ i, i < l.length → L i = true) → J L (sl a) w → a.defers = a0.defers → a.tmps.size = a0.tmps.size → R w0 w → (∀ s, (∀ o ∈ l, o.dst ≠ some s) → a.tmps.getD s undef = a0.tmps.getD s undef) →
      (∀ (k : Nat) (o : Oper) (d : Tmp), l[k]? = some o → o.dst = some d → F k (a.tmps.getD d undef) w) → Q .normal a w) :
    (Code.region id l.toArray true).wpIn (Fence.wide.inRound ln) 0 P Q a0 w0 := by
  unfold chk at hchk
  simp only [Bool.and_eq_true, decide_eq_true_eq] at hchk
  obtain ⟨⟨h1, h2⟩, h3⟩ := hchk
  have hback : ∀ (i : Nat) (o : Oper), l.toArray[i]? = some o → ∀ e ∈ o.after, Region.binds .any e = true → e.on < i := by
    intro i o ho e he hb
    rw [List.all_eq_true] at h1
    have := h1 (o, i) (List.mem_zipIdx_iff_getElem?.2 (by simpa using ho))
    rw [Array.all_eq_true_iff_forall_mem] at this
    have h5 := this e he
    rw [hb] at h5
    simpa using h5
  have hin : ∀ o ∈ l, ∀ d, o.dst = some d → d < a0.tmps.size := by
    intro o ho d hd
    rw [List.all_eq_true] at h3
    have := h3 o ho
    rw [hd] at this
    simpa using this
  refine wpIn_region_any hm (any_of_inv (hnd9 := by simpa using noDefer_spec hnd9) (R := R) (J := J) (F := F) (a0 := a0) (w0 := w0) hR hT hmono h2 hin hback (fun i o ho => ?_) (fun L a w hL hJ h4 h5 h6 h7 h8 => hend L a w (by simpa using hL) hJ h4 h5 h6 h7 fun k o d hk hd => h8 k o d (by simpa using hk) hd) _ _ _ _ ?_ ?_)
  · have := hs.at_ i o (by simpa using ho)
    rw [Nat.zero_add] at this
    exact this
  · simp
  · have hL : (fun k => (Array.replicate l.toArray.size false).getD k false) = fun _ => false := by
      funext k
      simp [Array.getD_eq_getD_getElem?, Array.getElem?_replicate]
      split <;> rfl
    refine ⟨by simp, rfl, rfl, hD, by rw [hL]; exact h0, fun _ _ => rfl, fun k o d hk hd hl => ?_⟩
    exfalso
    simp [Array.getD_eq_getD_getElem?, Array.getElem?_replicate] at hl
    split at hl <;> simp at hl

/-- a region of a list -/
theorem wp_region_hand {l : List Oper} {id : Nat} (R : World → World → Prop) (J : (Nat → Bool) → (Tmp → Value) → World → Prop) (hm : P.follows .mixedOrders = true) (hnd9 : noDefer l = true) (hR : ∀ w, R w w) (hT : ∀ a b c, R a b → R b c → R a c) (F : Nat → Value → World → Prop) (hmono : ∀ k v w w', F k v w → R w w' → F k v w') (hchk : chk l a0.tmps.size = true)
    (hD : R w0 w0.drew) (h0 : J (fun _ => false) (sl a0) w0.drew) (hs : AllSteps R J P l.toArray Q a0 w0 F 0 l)
    (hend : ∀ L a w, (∀ i, i < l.length → L i = true) → J L (sl a) w → a.defers = a0.defers → a.tmps.size = a0.tmps.size → R w0 w → (∀ s, kept l s = true → a.tmps.getD s undef = a0.tmps.getD s undef) →
      (∀ k d, slotOf l k = some d → F k (a.tmps.getD d undef) w) → Q .normal a w) :
    (Code.region id l.toArray true).wpIn (Fence.wide.inRound ln) 0 P Q a0 w0 :=
  wp_region_facts hm hnd9 hR hT F hmono hchk hD h0 hs fun L a w hL hJ h1 h2 h3 h4 h5 => hend L a w hL hJ h1 h2 h3 (fun s hs => h4 s (kept_spec hs)) fun k d hd => by
    unfold slotOf at hd
    obtain ⟨ok, ho, hd⟩ := Option.bind_eq_some_iff.1 hd
    exact h5 k ok d ho hd

/-- a region of a list; what is behind it goes on with the slots laid -/
theorem wp_region_put {l : List Oper} {id : Nat} (R : World → World → Prop) (J : (Nat → Bool) → (Tmp → Value) → World → Prop) (ds : List Tmp) (hm : P.follows .mixedOrders = true) (hnd9 : noDefer l = true) (hds : l.filterMap (·.dst) = ds) (hR : ∀ w, R w w) (hT : ∀ a b c, R a b → R b c → R a c) (F : Nat → Value → World → Prop) (hmono : ∀ k v w w', F k v w → R w w' → F k v w') (hchk : chk l a0.tmps.size = true)
    (hD : R w0 w0.drew) (h0 : J (fun _ => false) (sl a0) w0.drew) (hs : AllSteps R J P l.toArray Q a0 w0 F 0 l)
    (hend : ∀ (L : Nat → Bool) (w : World) (val : Tmp → Value), (∀ i, i < l.length → L i = true) → J L val w → R w0 w → (∀ k d, slotOf l k = some d → F k (val d) w) → Q .normal (putAll a0 (ds.map fun d => (d, val d))) w) :
    (Code.region id l.toArray true).wpIn (Fence.wide.inRound ln) 0 P Q a0 w0 := by
  refine wp_region_hand R J hm hnd9 hR hT F hmono hchk hD h0 hs fun L a w hL hJ h1 h2 h3 h4 h5 => ?_
  have e := putAll_eq h2 h1 h4
  rw [hds] at e
  have := hend L w (fun d => a.tmps.getD d undef) hL hJ h3 h5
  rw [← e] at this
  exact this
end
end Go.Proofs.Ytokochkjjlbnkaa.regvi
