import Derived.Test.YtehmblcbccceaaaGreatLScv
namespace Go.Proofs.YtehmblcbccceaaaGreat
open Go.RowKit pxm imm trm Go.Maps
/-! ### Right nodes -/
theorem ndC_zero {m : Mp} {op : Int} {cl : Bool} {r : Bx} {lk : Int} (h : ndC m op cl r lk = 0) : m.right = true ∧ (0 ≤ op ∧ op ≤ 255) ∧ lk = 0 ∧ (if cl = true then clB r = true else r = Bx.o) := by
  unfold ndC at h
  by_cases h1 : (m.right && decide (0 ≤ op ∧ op ≤ 255)) = true
  · rw [if_pos h1] at h
    rw [Bool.and_eq_true,decide_eq_true_eq] at h1
    refine ⟨h1.1,h1.2,?_⟩
    by_cases h2 : cl = true
    · rw [if_pos h2] at h ⊢
      by_cases h3 : clB r = true
      · rw [if_pos h3] at h; exact ⟨h,h3⟩
      · rw [if_neg h3] at h; cases h
    · rw [if_neg h2] at h ⊢
      by_cases h3 : r = Bx.o
      · rw [if_pos h3] at h; exact ⟨h,h3⟩
      · rw [if_neg h3] at h; cases h
  · rw [if_neg h1] at h; cases h
theorem ndC_of {m m' : Mp} {op op' : Int} {cl cl' : Bool} {r r' : Bx} {lk lk' : Int} (h1 : m.right = m'.right) (h2 : decide (0 ≤ op ∧ op ≤ 255) = decide (0 ≤ op' ∧ op' ≤ 255)) (h3 : cl = cl' ∧ r = r' ∨ ((if cl = true then clB r = true else r = Bx.o) ∧ (if cl' = true then clB r' = true else r' = Bx.o))) (h4 : lk = lk') : ndC m op cl r lk = ndC m' op' cl' r' lk' := by
  subst h4
  unfold ndC
  rw [h1,h2]
  rcases h3 with ⟨rfl,rfl⟩ | ⟨h5,h6⟩
  · rfl
  · have e : ∀ {c : Bool} {q : Bx},(if c = true then clB q = true else q = Bx.o) → (if c = true then (if clB q = true then lk else 11) else (if q = Bx.o then lk else 10)) = lk := fun {c q} h => by
      by_cases hc : c = true
      · rw [if_pos hc] at h ⊢; rw [if_pos h]
      · rw [if_neg hc] at h ⊢; rw [if_pos h]
    rw [e h5,e h6]
theorem plain_chk : Nd.plain.chk = 0 := by decide
theorem chk_set {n : Nd} (h : n.chk = 0) (o : Op9) : (setN n o).chk = (setN Nd.plain o).chk := by
  obtain ⟨h1,h2,h3,h4⟩ := ndC_zero h
  obtain ⟨p1,p2,p3,p4⟩ := ndC_zero plain_chk
  have d1 : n.m.right = Nd.plain.m.right := h1.trans p1.symm
  have d2 : decide (0 ≤ n.op ∧ n.op ≤ 255) = decide (0 ≤ Nd.plain.op ∧ Nd.plain.op ≤ 255) := (decide_eq_true h2).trans (decide_eq_true p2).symm
  have d4 := h3.trans p3.symm
  unfold setN Nd.chk
  by_cases k4 : o.k = 4
  · rw [if_pos k4,if_pos k4]; exact ndC_of rfl d2 (.inr ⟨h4,p4⟩) d4
  rw [if_neg k4,if_neg k4]
  by_cases k5 : o.k = 5
  · rw [if_pos k5,if_pos k5]; exact ndC_of d1 d2 (.inl ⟨rfl,rfl⟩) d4
  rw [if_neg k5,if_neg k5]
  by_cases k6 : o.k = 6
  · rw [if_pos k6,if_pos k6]; exact ndC_of d1 rfl (.inr ⟨h4,p4⟩) d4
  rw [if_neg k6,if_neg k6]
  by_cases k7 : o.k = 7
  · rw [if_pos k7,if_pos k7]; exact ndC_of d1 d2 (.inr ⟨h4,p4⟩) rfl
  rw [if_neg k7,if_neg k7]
  by_cases k8 : o.k = 8
  · rw [if_pos k8,if_pos k8]; exact ndC_of d1 d2 (.inr ⟨h4,p4⟩) d4
  rw [if_neg k8,if_neg k8]
  exact ndC_of d1 d2 (.inr ⟨h4,p4⟩) d4
def Good (x : PSc) : Prop := ∀ i,(x.nd i).chk = 0
theorem Good.m {x : PSc} (h : Good x) (i : Int) : (x.nd i).m.right = true := (ndC_zero (h i)).1
theorem doS_good {M : Int} {x : PSc} (h : Good x) (o : Op9) : Good (doS M x o).1 := by
  by_cases hz : (doS M x o).2 ≠ 0
  · rw [doS_not hz]; exact h
  unfold doS at hz ⊢
  by_cases h1 : o.k = 1
  · rw [if_pos h1]
    unfold createS
    split
    · exact h
    · split
      · exact h
      · exact upd_all (P := fun n : Nd => n.chk = 0) (f := x.nd) h plain_chk
  rw [if_neg h1] at hz ⊢
  by_cases h2 : o.k = 2
  · rw [if_pos h2]
    unfold removeS
    split <;> exact h
  rw [if_neg h2] at hz ⊢
  by_cases h3 : o.k = 3
  · rw [if_pos h3]
    unfold moveS
    split <;> exact h
  rw [if_neg h3] at hz ⊢
  by_cases h4 : 4 ≤ o.k ∧ o.k ≤ 8
  · rw [if_pos h4] at hz ⊢
    unfold setS at hz ⊢
    by_cases e1 : has x.t o.i = false
    · rw [if_pos e1]; exact h
    rw [if_neg e1] at hz ⊢
    by_cases e2 : (setN Nd.plain o).chk ≠ 0
    · rw [if_pos e2]; exact h
    rw [if_neg e2]
    refine upd_all (P := fun n : Nd => n.chk = 0) (f := x.nd) h ?_
    have := chk_set (h o.i) o
    rw [this]
    simpa using e2
  · rw [if_neg h4]; exact h
theorem allS_good {M : Int} : ∀ (l : List Op9) {x : PSc},Good x → Good (allS M x l).1
  | [],_,h => h
  | o :: l,x,h => by
    rw [allS_cons]
    split
    · exact h
    · exact allS_good l (doS_good h o)
/-! ### Maps one behind the other -/
theorem dotV_right {l : List Int} (h : dotB l = true) : rightB (dotV l) = true := by
  unfold dotB at h
  rw [Bool.and_eq_true,Bool.and_eq_true,decide_eq_true_eq] at h
  rw [(dot_yes h.1 h.2.1 h.2.2).1]
  exact h.2.2
theorem dotB_right {m : Mp} {p : Pt} (h : m.takes p = true) : rightB (m.take p).x = true ∧ rightB (m.take p).y = true := by
  unfold Mp.take
  rw [if_pos h]
  unfold Mp.takes at h
  rw [Bool.and_eq_true] at h
  exact ⟨dotV_right h.1,dotV_right h.2⟩
theorem thens_right {m n : Mp} (h : (m.thens [n]).2 = 0) : (m.thens [n]).1.right = true := by
  unfold Mp.thens at h ⊢
  by_cases h1 : m.right = true ∧ [n].all Mp.right = true
  · rw [if_pos h1] at h ⊢
    cases hb : m.thenB n with
    | true =>
      have e : m.run [n] = (m.then1 n,true) := by unfold Mp.run Mp.run; rw [if_pos hb]
      rw [e]
      have h2 := hb
      unfold Mp.thenB at h2
      rw [Bool.and_eq_true,Bool.and_eq_true] at h2
      obtain ⟨a1,a2⟩ := dotB_right h2.1.1
      obtain ⟨a3,a4⟩ := dotB_right h2.1.2
      obtain ⟨a5,a6⟩ := dotB_right h2.2
      unfold Mp.right Mp.l allR Mp.then1
      simp [a1,a2,a3,a4,a5,a6]
    | false =>
      have e : m.run [n] = (Mp.o,false) := by unfold Mp.run; rw [if_neg (by rw [hb]; simp)]
      rw [e] at h
      simp at h
  · rw [if_neg h1] at h
    simp at h
theorem thens_35 {m n : Mp} (h1 : m.right = true) (h2 : n.right = true) : (m.thens [n]).2 = 0 ∨ (m.thens [n]).2 = 35 := by
  unfold Mp.thens
  rw [if_pos ⟨h1,by simp [h2]⟩]
  simp only
  split
  · exact .inl rfl
  · exact .inr rfl
theorem world_right {t : T} {nd : Int → Nd} (ok : Ok t) (h : ∀ i,(nd i).m.right = true) {i : Int} (hi : i = 0 ∨ i ∈ ids t) : ∀ q,worldOf t nd i = some q → q.right = true := by
  refine ok.climb (P := fun i => ∀ q,worldOf t nd i = some q → q.right = true) (fun q hq => ?_) (fun i hi ih q hq => ?_) hi
  · rw [worldOf_0] at hq
    rw [← Option.some.inj hq]
    exact h 0
  · rw [worldOf_step ok nd hi] at hq
    unfold wstep at hq
    cases hw : worldOf t nd (par t i) with
    | none => rw [hw] at hq; cases hq
    | some u =>
      rw [hw,Option.bind_some] at hq
      by_cases hz : ((nd i).m.thens [u]).2 = 0
      · rw [if_pos hz] at hq
        rw [← Option.some.inj hq]
        exact thens_right hz
      · rw [if_neg hz] at hq; cases hq
/-! ### Rows of nodes -/
theorem UnI.first {t : T} {Sn : Int → Prop} {i : Int} {k : Nat} {next row : List Int} (ok : Ok t) (h : UnI t Sn i k next row) (hk : next.length ≤ k) (hcl : ∀ j,Sn j → ∀ c ∈ kids t j,Sn c) (hi : i = 0 ∨ i ∈ ids t) (h0 : 0 < row.length) : row[0] = i := by
  have hd := h.done ok hk hcl hi
  have hns : ¬ Sn i := fun e => by
    have hall : ∀ n j,depth t j ≤ n → (j = i ∨ within t j i = true) → Sn j := fun n => by
      induction n with
      | zero =>
        rintro j hj (rfl | hw)
        · exact e
        · have := within_deep ok hw; omega
      | succ n ih =>
        rintro j hj (rfl | hw)
        · exact e
        · have hjj := (within_has hw).1
          have hk := kid_of hjj
          exact hcl _ (ih (par t j) (by have := depth_kid ok hk; omega) ((trm.within_iff ok hjj hi).1 hw)) j hk
    have h1 := (hd row[0]).1 (List.getElem_mem h0)
    exact h1.2 (hall _ _ (Nat.le_refl _) h1.1)
  obtain ⟨v,hv,e⟩ := List.mem_iff_getElem.1 ((hd i).2 ⟨.inl rfl,hns⟩)
  rcases h.up v hv with rfl | h2
  · exact e
  · rw [e] at h2
    have h3 := (h.sub _).1 (List.mem_of_mem_take h2)
    have h4 := h.deep _ (List.mem_of_mem_take h3.1)
    rcases hi with rfl | hi
    · have : par t 0 = -1 := par_none fun e => ok.ne0 e rfl
      rw [this] at h4
      rcases has_iff.1 h4.1 with e | e
      · cases e
      · obtain ⟨q,hq⟩ := mem_ids.1 e
        have := (ok.rng _ hq).1
        simp at this
    · have := depth_step ok hi
      omega
structure StI (t : T) (Tc : Int → Prop) (rows : List (List Int)) (Sn : Int → Prop) : Prop where
  mem : ∀ j,Sn j ↔ ∃ r ∈ rows,j ∈ r
  cl : ∀ j,Sn j → ∀ c ∈ kids t j,Sn c
  hs : ∀ j,Sn j → has t j = true
  tc : ∀ j,Tc j → has t j = true → Sn j
  nd : rows.reverse.flatten.Nodup
  up : ∀ pre x post,rows.reverse.flatten = pre ++ x :: post → x = 0 ∨ par t x ∈ pre ∨ ¬ Sn (par t x)
theorem StI.start (t : T) : StI t (fun _ => False) [] (fun _ => False) :=
  ⟨fun j => by simp,fun _ h => h.elim,fun _ h => h.elim,fun _ h => h.elim,by simp,fun pre x post h => by simp at h⟩
theorem StI.tcs {t : T} {Tc Tc' : Int → Prop} {rows : List (List Int)} {Sn : Int → Prop} (h : StI t Tc rows Sn) (hs : ∀ j,Tc' j → has t j = true → Tc j) : StI t Tc' rows Sn := ⟨h.mem,h.cl,h.hs,fun j hj hh => h.tc j (hs j hj hh) hh,h.nd,h.up⟩
theorem StI.add {t : T} {Tc Tc' : Int → Prop} {rows : List (List Int)} {Sn Sn' : Int → Prop} (ok : Ok t) (h : StI t Tc rows Sn) {i : Int} {k : Nat} {next row : List Int} (hi : has t i = true) (u : UnI t Sn i k next row) (hk : next.length ≤ k) (hT : ∀ j,Tc' j → Tc j ∨ j = i) (hS : ∀ j,Sn' j ↔ Sn j ∨ j ∈ row) : StI t Tc' (rows ++ [row]) Sn' := by
  have hi' := has_iff.1 hi
  have hd := u.done ok hk h.cl hi'
  have hcl' : ∀ j,Sn j ∨ j ∈ row → ∀ c ∈ kids t j,Sn c ∨ c ∈ row := fun j hj c hc => by
    by_cases hsn : Sn c
    · exact .inl hsn
    · right
      rcases hj with hj | hj
      · exact absurd (h.cl j hj c hc) hsn
      · refine (hd c).2 ⟨.inr ?_,hsn⟩
        obtain ⟨h1,h2⟩ := ok.kid hc
        rw [trm.within_iff ok h1 hi',h2]
        exact ((hd j).1 hj).1
  have hhs : ∀ j,Sn j ∨ j ∈ row → has t j = true := fun j hj => by
    rcases hj with hj | hj
    · exact h.hs j hj
    · rcases ((hd j).1 hj).1 with rfl | h2
      · exact hi
      · exact has_iff.2 (.inr (within_has h2).1)
  refine ⟨fun j => ?_,fun j hj c hc => (hS c).2 (hcl' j ((hS j).1 hj) c hc),fun j hj => hhs j ((hS j).1 hj),fun j hj hh => (hS j).2 ?_,?_,fun pre x post e => ?_⟩
  · rw [hS,h.mem]
    simp only [List.mem_append,List.mem_singleton]
    constructor
    · rintro (⟨r,h1,h2⟩ | h1)
      · exact ⟨r,.inl h1,h2⟩
      · exact ⟨row,.inr rfl,h1⟩
    · rintro ⟨r,h1 | rfl,h2⟩
      · exact .inl ⟨r,h1,h2⟩
      · exact .inr h2
  · rcases hT j hj with h1 | rfl
    · exact .inl (h.tc j h1 hh)
    · by_cases hsn : Sn j
      · exact .inl hsn
      · exact .inr ((hd j).2 ⟨.inl rfl,hsn⟩)
  · rw [List.reverse_append,List.reverse_singleton,List.singleton_append,List.flatten_cons,List.nodup_append]
    refine ⟨u.rnd,h.nd,fun a ha b hb e => ?_⟩
    subst e
    rw [List.mem_flatten] at hb
    obtain ⟨r,h1,h2⟩ := hb
    exact ((hd a).1 ha).2 ((h.mem a).2 ⟨r,List.mem_reverse.1 h1,h2⟩)
  · rw [List.reverse_append,List.reverse_singleton,List.singleton_append,List.flatten_cons] at e
    by_cases hx0 : x = 0
    · exact .inl hx0
    right
    rcases List.append_eq_append_iff.1 e with ⟨m,e1,e2⟩ | ⟨m,e1,e2⟩
    · -- pre = row ++ m
      have hq := h.up m x post e2
      rcases hq with hq | hq | hq
      · exact absurd hq hx0
      · left; rw [e1]; exact List.mem_append_right _ hq
      · by_cases hr : par t x ∈ row
        · left; rw [e1]; exact List.mem_append_left _ hr
        · right; rw [hS]; exact fun h9 => h9.elim hq hr
    · -- row = pre ++ m,x :: post = m ++ old
      cases m with
      | nil =>
        rw [List.append_nil] at e1
        rw [List.nil_append] at e2
        rcases h.up [] x post (by simpa using e2.symm) with hq | hq | hq
        · exact absurd hq hx0
        · cases hq
        · by_cases hr : par t x ∈ row
          · left; rw [← e1]; exact hr
          · right; rw [hS]; exact fun h9 => h9.elim hq hr
      | cons y m =>
        rw [List.cons_append] at e2
        injection e2 with e3 e4
        subst e3
        have hlen : pre.length < row.length := by rw [e1]; simp
        have hx : row[pre.length] = x := by simp only [e1,List.getElem_append_right (Nat.le_refl _),Nat.sub_self,List.getElem_cons_zero]
        have htk : row.take pre.length = pre := by rw [e1,List.take_left]
        rcases u.up pre.length hlen with h0 | h2
        · have hf := u.first ok hk h.cl hi' (by omega)
          have hxi : x = i := by rw [← hx,← hf]; simp only [h0]
          subst hxi
          have hxx := hi'.resolve_left hx0
          have hkx := kid_of hxx
          have hxr : x ∈ row := by rw [e1]; simp
          right
          rw [hS]
          rintro (h9 | h9)
          · exact ((hd x).1 hxr).2 (h.cl _ h9 x hkx)
          · have h3 := (u.sub _).1 h9
            have h4 := u.deep _ (List.mem_of_mem_take h3.1)
            have := depth_step ok hxx
            omega
        · left
          rw [hx,htk] at h2
          exact h2
/-! ### Worlds told anew -/
structure FrI (x : PSc) (pre : List Int) (fr : Int → Option Mp) : Prop where
  yes : ∀ j ∈ pre,fr j = worldOf x.t x.nd j ∧ (fr j).isSome = true
  no : ∀ j,j ∉ pre → fr j = none
theorem FrI.start (x : PSc) : FrI x [] (fun _ => none) := ⟨fun _ h => (nomatch h),fun _ _ => rfl⟩
theorem line_sn {t : T} (ok : Ok t) {Sn : Int → Prop} (hcl : ∀ j,Sn j → ∀ c ∈ kids t j,Sn c) {p : Int} (hp : p = 0 ∨ p ∈ ids t) : (∃ j ∈ line t p,Sn j) ∨ Sn 0 → Sn p := by
  refine ok.climb (P := fun p => (∃ j ∈ line t p,Sn j) ∨ Sn 0 → Sn p) (fun h => ?_) (fun i hi ih h => ?_) hp
  · rcases h with ⟨j,hj,_⟩ | h
    · rw [line_0] at hj; cases hj
    · exact h
  · rw [line_step ok hi] at h
    rcases h with ⟨j,hj,hs⟩ | h
    · rcases List.mem_cons.1 hj with e | hj
      · exact e ▸ hs
      · exact hcl _ (ih (.inl ⟨j,hj,hs⟩)) i (kid_of hi)
    · exact hcl _ (ih (.inr h)) i (kid_of hi)
theorem StI.rest {x : PSc} {Tc : Int → Prop} {rows : List (List Int)} {Sn : Int → Prop} (ok : Ok x.t) (h : StI x.t Tc rows Sn) (hs : Settled x Tc) {p : Int} (hp : has x.t p = true) (hn : ¬ Sn p) : worldOf x.t x.nd p = some (x.ws p) := by
  have hp' := has_iff.1 hp
  refine hs p hp (fun j hj ht => hn (line_sn ok h.cl hp' (.inl ⟨j,hj,h.tc j ht (has_iff.2 (.inr (line_mem ok hp' hj)))⟩))) fun ht => hn (line_sn ok h.cl hp' (.inr (h.tc 0 ht (has_iff.2 (.inl rfl)))))
theorem FrI.step {x : PSc} {Tc : Int → Prop} {rows : List (List Int)} {Sn : Int → Prop} (ok : Ok x.t) (hg : Good x) (h : StI x.t Tc rows Sn) (hs : Settled x Tc) {pre post : List Int} {i : Int} {fr : Int → Option Mp} (hf : FrI x pre fr) (e : rows.reverse.flatten = pre ++ i :: post) :
    ((reckonS x fr i).2 = 0 ∧ FrI x (pre ++ [i]) (upd fr i (some (reckonS x fr i).1))) ∨ ((reckonS x fr i).2 = 35 ∧ has x.t i = true ∧ worldOf x.t x.nd i = none) := by
  have hmem : ∀ j,Sn j ↔ j ∈ rows.reverse.flatten := fun j => by
    rw [h.mem,List.mem_flatten]
    exact ⟨fun ⟨r,h1,h2⟩ => ⟨r,List.mem_reverse.2 h1,h2⟩,fun ⟨r,h1,h2⟩ => ⟨r,List.mem_reverse.1 h1,h2⟩⟩
  have hi : has x.t i = true := h.hs i ((hmem i).2 (by rw [e]; simp))
  have hnd : ndAt x i = x.nd i := if_pos hi
  have hfin : ∀ q,worldOf x.t x.nd i = some q → FrI x (pre ++ [i]) (upd fr i (some q)) := fun q hq => by
    refine ⟨fun j hj => ?_,fun j hj => ?_⟩
    · by_cases ej : j = i
      · rw [ej,upd_same]; exact ⟨hq.symm,rfl⟩
      · rw [upd_ne _ ej]
        rcases List.mem_append.1 hj with h1 | h1
        · exact hf.yes j h1
        · exact absurd (List.mem_singleton.1 h1) ej
    · have ej : j ≠ i := fun ej => hj (by rw [ej]; simp)
      rw [upd_ne _ ej]
      exact hf.no j fun h1 => hj (List.mem_append_left _ h1)
  by_cases h0 : i = 0
  · subst h0
    left
    have er : reckonS x fr 0 = ((x.nd 0).m,0) := by unfold reckonS; rw [if_pos rfl,hnd]
    rw [er]
    exact ⟨rfl,hfin _ (worldOf_0 _ _)⟩
  have hii := (has_iff.1 hi).resolve_left h0
  have hp := ok.par_ok hii
  have hpw : worldOf x.t x.nd (par x.t i) = some ((fr (par x.t i)).getD (wsAt x (par x.t i))) := by
    by_cases hpp : par x.t i ∈ pre
    · obtain ⟨h1,h2⟩ := hf.yes _ hpp
      rw [← h1]
      obtain ⟨q,hq⟩ := Option.isSome_iff_exists.1 h2
      rw [hq]
      rfl
    · rw [hf.no _ hpp]
      rcases h.up pre i post e with h1 | h1 | h1
      · exact absurd h1 h0
      · exact absurd h1 hpp
      · rw [StI.rest ok h hs (has_iff.2 hp) h1]
        show _ = some (wsAt x (par x.t i))
        rw [show wsAt x (par x.t i) = x.ws (par x.t i) from if_pos (has_iff.2 hp)]
  have er : reckonS x fr i = (x.nd i).m.thens [(fr (par x.t i)).getD (wsAt x (par x.t i))] := by unfold reckonS; rw [if_neg h0,hnd]
  rw [er]
  generalize (fr (par x.t i)).getD (wsAt x (par x.t i)) = u at *
  have hur := world_right ok hg.m hp u hpw
  have hw : worldOf x.t x.nd i = if ((x.nd i).m.thens [u]).2 = 0 then some ((x.nd i).m.thens [u]).1 else none := by
    rw [worldOf_step ok _ hii,hpw]; rfl
  rcases thens_35 (hg.m i) hur with hz | hz
  · rw [if_pos hz] at hw
    exact .inl ⟨hz,hfin _ hw⟩
  · rw [if_neg (by rw [hz]; decide)] at hw
    exact .inr ⟨hz,hi,hw⟩
noncomputable def setSt (x : PSc) : PSc × Int := open Classical in if ∀ i,has x.t i = true → worldOf x.t x.nd i ≠ none then (⟨x.t,x.nd,fun i => (worldOf x.t x.nd i).getD (x.ws i)⟩,0) else (x,35)
theorem setSt_bad {x : PSc} {i : Int} (h : has x.t i = true) (hw : worldOf x.t x.nd i = none) : setSt x = (x,35) := by
  unfold setSt
  rw [if_neg fun e => e i h hw]
theorem setSt_not {x : PSc} (h : (setSt x).2 ≠ 0) : (setSt x).1 = x := by
  unfold setSt at h ⊢
  split
  · rename_i h1
    rw [if_pos h1] at h
    exact absurd rfl h
  · rfl
theorem FrI.done {x : PSc} {Tc : Int → Prop} {rows : List (List Int)} {Sn : Int → Prop} (ok : Ok x.t) (h : StI x.t Tc rows Sn) (hs : Settled x Tc) {fr : Int → Option Mp} (hf : FrI x rows.reverse.flatten fr) :
    setSt x = (⟨x.t,x.nd,fun i => (worldOf x.t x.nd i).getD (x.ws i)⟩,0) ∧ ∀ i,has x.t i = true → (worldOf x.t x.nd i).getD (x.ws i) = (fr i).getD (x.ws i) := by
  have hmem : ∀ j,Sn j ↔ j ∈ rows.reverse.flatten := fun j => by
    rw [h.mem,List.mem_flatten]
    exact ⟨fun ⟨r,h1,h2⟩ => ⟨r,List.mem_reverse.2 h1,h2⟩,fun ⟨r,h1,h2⟩ => ⟨r,List.mem_reverse.1 h1,h2⟩⟩
  have hall : ∀ i,has x.t i = true → worldOf x.t x.nd i = some ((fr i).getD (x.ws i)) := fun i hi => by
    by_cases hsn : Sn i
    · obtain ⟨h1,h2⟩ := hf.yes i ((hmem i).1 hsn)
      obtain ⟨q,hq⟩ := Option.isSome_iff_exists.1 h2
      rw [← h1,hq]
      rfl
    · rw [hf.no i fun e => hsn ((hmem i).2 e)]
      exact StI.rest ok h hs hi hsn
  refine ⟨?_,fun i hi => by rw [hall i hi]; rfl⟩
  unfold setSt
  rw [if_pos fun i hi => by rw [hall i hi]; simp]
theorem setSt_settled {x : PSc} (h : (setSt x).2 = 0) : Settled (setSt x).1 fun _ => False := by
  unfold setSt at h ⊢
  split
  · rename_i h1
    intro i hi _ _
    have h2 := h1 i hi
    show worldOf x.t x.nd i = some ((worldOf x.t x.nd i).getD (x.ws i))
    cases hw : worldOf x.t x.nd i with
    | none => exact absurd hw h2
    | some q => rfl
  · rename_i h1
    rw [if_neg h1] at h
    cases h
theorem setSt_t (x : PSc) : (setSt x).1.t = x.t := by unfold setSt; split <;> rfl
theorem setSt_nd (x : PSc) : (setSt x).1.nd = x.nd := by unfold setSt; split <;> rfl
end Go.Proofs.YtehmblcbccceaaaGreat
