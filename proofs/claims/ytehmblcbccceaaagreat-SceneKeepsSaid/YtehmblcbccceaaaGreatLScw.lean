import Derived.Test.YtehmblcbccceaaaGreatLScd
namespace Go.Proofs.YtehmblcbccceaaaGreat
open Go.RowKit pxm imm trm Go.Maps
def wstep (m : Mp) (w : Option Mp) : Option Mp := w.bind fun w => if (m.thens [w]).2 = 0 then some (m.thens [w]).1 else none
def worldOf (t : T) (nd : Int → Nd) (i : Int) : Option Mp := (line t i).foldr (fun j w => wstep (nd j).m w) (some (nd 0).m)
theorem worldOf_0 (t : T) (nd : Int → Nd) : worldOf t nd 0 = some (nd 0).m := by unfold worldOf; rw [line_0]; rfl
theorem worldOf_step {t : T} (ok : Ok t) (nd : Int → Nd) {i : Int} (hi : i ∈ ids t) : worldOf t nd i = wstep (nd i).m (worldOf t nd (par t i)) := by
  unfold worldOf
  rw [line_step ok hi]
  rfl
theorem line_same {t t' : T} (ok : Ok t) (ok' : Ok t') {i : Int} (hi : i = 0 ∨ i ∈ ids t') (h : ∀ j ∈ line t' i,j ∈ ids t ∧ par t' j = par t j) : line t' i = line t i := by
  refine ok'.climb (P := fun i => (∀ j ∈ line t' i,j ∈ ids t ∧ par t' j = par t j) → line t' i = line t i) (fun _ => by rw [line_0,line_0]) (fun i hi ih hs => ?_) hi h
  rw [line_step ok' hi] at hs ⊢
  obtain ⟨h1,h2⟩ := hs i List.mem_cons_self
  rw [line_step ok h1,ih fun j hj => hs j (List.mem_cons_of_mem _ hj),h2]
theorem worldOf_same {t t' : T} {nd nd' : Int → Nd} {i : Int} (h1 : line t' i = line t i) (h0 : (nd' 0).m = (nd 0).m) (h2 : ∀ j ∈ line t i,(nd' j).m = (nd j).m) : worldOf t' nd' i = worldOf t nd i := by
  unfold worldOf
  rw [h1,h0]
  generalize some (nd 0).m = z
  revert h2
  generalize line t i = l
  intro h2
  induction l with
  | nil => rfl
  | cons j l ih =>
    rw [List.foldr_cons,List.foldr_cons,h2 j List.mem_cons_self,ih fun k hk => h2 k (List.mem_cons_of_mem _ hk)]
def Settled (x : PSc) (S : Int → Prop) : Prop := ∀ i,has x.t i = true → (∀ j ∈ line x.t i,¬ S j) → ¬ S 0 → worldOf x.t x.nd i = some (x.ws i)
theorem Settled.step {x y : PSc} {S S' : Int → Prop} (h : Settled x S) (ok : Ok x.t) (ok' : Ok y.t) (hS : ∀ j,S j → S' j)
    (hs : ∀ j,has y.t j = true → ¬ S' j → has x.t j = true ∧ (j ≠ 0 → par y.t j = par x.t j) ∧ (y.nd j).m = (x.nd j).m ∧ y.ws j = x.ws j) : Settled y S' := by
  intro i hi hl h0
  have hh := has_iff.1 hi
  have hj : ∀ j ∈ line y.t i,j ∈ ids x.t ∧ par y.t j = par x.t j ∧ (y.nd j).m = (x.nd j).m := fun j hj => by
    have h1 := line_mem ok' hh hj
    obtain ⟨h2,h3,h4,-⟩ := hs j (has_iff.2 (.inr h1)) (hl j hj)
    have hn := ok'.ne0 h1
    exact ⟨(has_iff.1 h2).resolve_left hn,h3 hn,h4⟩
  have e := line_same ok ok' hh fun j hj' => ⟨(hj j hj').1,(hj j hj').2.1⟩
  have hr := hs 0 (has_iff.2 (.inl rfl)) h0
  have hi2 : ¬ S' i := by
    rcases hh with e0 | e0
    · rw [e0]; exact h0
    · exact hl i (by rw [line_step ok' e0]; exact List.mem_cons_self)
  have h5 := hs i hi hi2
  rw [worldOf_same e hr.2.2.1 fun j hj' => (hj j (by rw [e]; exact hj')).2.2,h i h5.1 (fun j hj' k => hl j (by rw [e]; exact hj') (hS j k)) fun k => h0 (hS 0 k),h5.2.2.2]
def touch (o : Op9) : Prop := o.k = 1 ∨ o.k = 3 ∨ o.k = 4
theorem doS_ok {M : Int} {x : PSc} (ok : Ok x.t) (o : Op9) : Ok (doS M x o).1.t := by
  unfold doS
  split
  · unfold createS
    split
    · exact ok
    · split
      · exact ok
      · exact (addS_ok ok _ _ _).1
  split
  · unfold removeS
    split
    · exact ok
    · exact (remS_ok ok _).1
  split
  · unfold moveS
    split
    · exact ok
    · exact (movS_ok ok _ _ _).1
  split
  · unfold setS
    split
    · exact ok
    · split <;> exact ok
  · exact ok
theorem setN_m {n : Nd} {o : Op9} (h : o.k ≠ 4) : (setN n o).m = n.m := by
  unfold setN
  rw [if_neg h]
  split
  · rfl
  split
  · rfl
  split
  · rfl
  split <;> rfl
theorem Settled.op {M : Int} {x : PSc} {S : Int → Prop} (h : Settled x S) (ok : Ok x.t) {o : Op9} (hz : (doS M x o).2 = 0) : Settled (doS M x o).1 fun j => S j ∨ (j = o.i ∧ touch o) := by
  refine h.step ok (doS_ok ok o) (fun j hj => .inl hj) fun j hj hn => ?_
  have hn2 : touch o → j ≠ o.i := fun ht e => hn (.inr ⟨e,ht⟩)
  clear hn h
  unfold doS at hz hj ⊢
  by_cases h1 : o.k = 1
  · rw [if_pos h1] at hz hj ⊢
    have hne := hn2 (.inl h1)
    unfold createS at hz hj ⊢
    by_cases e1 : (addS x.t o.i o.p o.n).2 ≠ 0
    · rw [if_pos e1] at hz; exact absurd hz e1
    rw [if_neg e1] at hz hj ⊢
    by_cases e2 : M < ((x.t.length + 2 : Nat) : Int)
    · rw [if_pos e2] at hz; cases hz
    rw [if_neg e2] at hj ⊢
    obtain ⟨⟨t',e0⟩,ht⟩ : ∃ q,addS x.t o.i o.p o.n = q := ⟨_,rfl⟩
    have h0 : e0 = 0 := by rw [ht] at e1; simpa using e1
    subst h0
    obtain ⟨b1,b2,b3,b4,b5,b6⟩ := addS_back ok ht
    rw [ht] at hj ⊢
    simp only at hj ⊢
    have hw : Ok (gone [o.i] t') := by have := Ok.gone b1 b2; rwa [b5] at this
    have hp := alike_par hw ok b6 j
    rw [par_gone b1.nd,if_neg (by simpa using hne)] at hp
    exact ⟨((b4 j).1 hj).resolve_left hne,fun _ => hp,by rw [upd_ne _ hne],upd_ne _ hne _⟩
  rw [if_neg h1] at hz hj ⊢
  by_cases h2 : o.k = 2
  · rw [if_pos h2] at hz hj ⊢
    unfold removeS at hz hj ⊢
    by_cases e1 : (remS x.t o.i).2.2 ≠ 0
    · rw [if_pos e1] at hz; exact absurd hz e1
    rw [if_neg e1] at hj ⊢
    obtain ⟨hi,hr⟩ := remS_yes (by simpa using e1)
    rw [hr] at hj ⊢
    simp only at hj ⊢
    have hh := (has_gone ok hi).1 hj
    refine ⟨hh.2,fun _ => ?_,by simp⟩
    rw [par_gone ok.nd,if_neg hh.1]
  rw [if_neg h2] at hz hj ⊢
  by_cases h3 : o.k = 3
  · rw [if_pos h3] at hz hj ⊢
    have hne := hn2 (.inr (.inl h3))
    unfold moveS at hz hj ⊢
    by_cases e1 : (movS x.t o.i o.p o.n).2 ≠ 0
    · rw [if_pos e1] at hz; exact absurd hz e1
    rw [if_neg e1] at hj ⊢
    obtain ⟨m1,m2,m3⟩ := movS_yes (by simpa using e1)
    rw [m1] at hj ⊢
    simp only at hj ⊢
    refine ⟨?_,fun _ => ?_,by simp⟩
    · rw [has_iff,ids_move m2,← has_iff] at hj; exact hj
    · rw [par_move ok.nd,if_neg hne]
  rw [if_neg h3] at hz hj ⊢
  by_cases h4 : 4 ≤ o.k ∧ o.k ≤ 8
  · rw [if_pos h4] at hz hj ⊢
    unfold setS at hz hj ⊢
    by_cases e1 : has x.t o.i = false
    · rw [if_pos e1] at hz; cases hz
    rw [if_neg e1] at hz hj ⊢
    by_cases e2 : (setN Nd.plain o).chk ≠ 0
    · rw [if_pos e2] at hz; exact absurd hz e2
    rw [if_neg e2] at hj ⊢
    refine ⟨hj,fun _ => rfl,?_,rfl⟩
    simp only
    by_cases e3 : j = o.i
    · rw [e3,upd_same]
      exact setN_m fun e4 => hn2 (.inr (.inr e4)) e3
    · rw [upd_ne _ e3]
  · rw [if_neg h4] at hz
    cases hz
theorem Settled.mono {x : PSc} {S S' : Int → Prop} (h : Settled x S) (hs : ∀ j,S j → S' j) : Settled x S' := fun i hi hl h0 => h i hi (fun j hj k => hl j hj (hs j k)) fun k => h0 (hs 0 k)
theorem allS_ok {M : Int} : ∀ (l : List Op9) {x : PSc},Ok x.t → Ok (allS M x l).1.t
  | [],_,ok => ok
  | o :: l,x,ok => by
    rw [allS_cons]
    split
    · exact ok
    · exact allS_ok l (doS_ok ok o)
theorem allS_fit {M : Int} : ∀ (l : List Op9) {x : PSc},(∀ o ∈ l,OpOk o) → (∀ i,Fit (x.nd i)) → ∀ i,Fit ((allS M x l).1.nd i)
  | [],_,_,h => h
  | o :: l,x,ho,h => by
    rw [allS_cons]
    split
    · exact h
    · exact allS_fit l (fun o' h' => ho o' (List.mem_cons_of_mem _ h')) (doS_fit h (ho o List.mem_cons_self))
theorem allS_len {M : Int} : ∀ (l : List Op9) {x : PSc},Ok x.t → (allS M x l).1.t.length ≤ x.t.length + l.length
  | [],_,_ => Nat.le_refl _
  | o :: l,x,ok => by
    rw [allS_cons]
    split
    · simp only; omega
    · have h1 := doS_len (M := M) ok o
      have h2 := allS_len (M := M) l (doS_ok (M := M) ok o)
      simp only [List.length_cons]
      omega
theorem Settled.all {M : Int} : ∀ (l : List Op9) {x : PSc} {S : Int → Prop},Ok x.t → Settled x S → (allS M x l).2.2 = 0 → Settled (allS M x l).1 fun j => S j ∨ ∃ o ∈ l,j = o.i ∧ touch o
  | [],x,S,_,h,_ => h.mono fun j hj => .inl hj
  | o :: l,x,S,ok,h,hz => by
    rw [allS_cons] at hz ⊢
    by_cases e : (doS M x o).2 ≠ 0
    · rw [if_pos e] at hz; exact absurd hz e
    rw [if_neg e] at hz ⊢
    refine (Settled.all l (doS_ok ok o) (h.op ok (by simpa using e)) hz).mono fun j hj => ?_
    rcases hj with (hj | hj) | ⟨o',h1,h2⟩
    · exact .inl hj
    · exact .inr ⟨o,List.mem_cons_self,hj⟩
    · exact .inr ⟨o',List.mem_cons_of_mem _ h1,h2⟩
end Go.Proofs.YtehmblcbccceaaaGreat
