import Derived.Test.YtehmblcbccceaaaGreatLScF
namespace Go.Proofs.YtehmblcbccceaaaGreat.trm
def idx (l : List Int) (i : Int) : Int := if i ∈ l then (l.idxOf i : Nat) else -1
abbrev S3 := Int × Int × Int
def grp (t : T) (i : Int) : List S3 := (kids t i).mapIdx fun j y => (y,i,(j : Int))
theorem grp_len (t : T) (i : Int) : (grp t i).length = (kids t i).length := by simp [grp]
theorem grp_at (t : T) (i : Int) {j : Nat} (h : j < (grp t i).length) : (grp t i)[j] = ((kids t i)[j]'(by rw [← grp_len]; exact h),i,(j : Int)) := by simp [grp]
theorem grp_ids (t : T) (i : Int) : (grp t i).map (·.1) = kids t i := by
  apply List.ext_getElem
  · simp [grp]
  · intro j h1 h2
    simp [grp]
theorem filter_take {l : List Int} (hn : l.Nodup) (j : Nat) : (l.filter fun y => decide (y ∈ l.take j)) = l.take j := by
  induction l generalizing j with
  | nil => simp
  | cons a l ih =>
    cases j with
    | zero => simp
    | succ j =>
      obtain ⟨h1,h2⟩ := List.nodup_cons.1 hn
      rw [List.take_succ_cons,List.filter_cons_of_pos (by simp),← ih h2 j]
      congr 1
      rw [ih h2 j]
      conv => rhs; rw [← ih h2 j]
      refine List.filter_congr fun y hy => ?_
      have : y ≠ a := fun e => h1 (e ▸ hy)
      simp [this]
structure BQ (t : T) (f : S3) (k : Nat) (l : List S3) : Prop where
  hd : l.head? = some f
  nd : (l.map (·.1)).Nodup
  deep : ∀ e ∈ l,depth t f.1 ≤ depth t e.1 ∧ has t e.1 = true
  up : ∀ v (hv : v < l.length),0 < v → ∃ u,∃ hu : u < l.length,∃ j : Nat,u < v ∧ u < k ∧ l[v].2.1 = l[u].1 ∧ l[v].2.2 = (j : Int) ∧ (kids t l[u].1)[j]? = some l[v].1 ∧
    ((kids t l[u].1).filter fun y => decide (y ∈ (l.take v).map (·.1))) = (kids t l[u].1).take j
  down : ∀ u (hu : u < l.length),u < k → ∀ y ∈ kids t l[u].1,y ∈ l.map (·.1)
theorem BQ.start {t : T} {f : S3} (hf : has t f.1 = true) : BQ t f 0 [f] :=
  ⟨rfl,by simp,fun e he => by rw [List.mem_singleton.1 he]; exact ⟨Nat.le_refl _,hf⟩,fun v hv h0 => by simp at hv; omega,fun u _ h => absurd h (by omega)⟩
theorem BQ.fresh {t : T} (ok : Ok t) {f : S3} {k : Nat} {l : List S3} (h : BQ t f k l) (hk : k < l.length) {y : Int} (hy : y ∈ kids t l[k].1) : y ∉ l.map (·.1) := fun hm => by
  obtain ⟨e,he,rfl⟩ := List.mem_map.1 hm
  obtain ⟨v,hv,rfl⟩ := List.mem_iff_getElem.1 he
  have hd := depth_kid ok hy
  have hkk := (h.deep _ (List.getElem_mem hk)).1
  by_cases h0 : 0 < v
  · obtain ⟨u,hu,j,-,huk,-,-,e3,-⟩ := h.up v hv h0
    have hy2 := List.mem_of_getElem? e3
    have e4 := (ok.kid hy).2.symm.trans (ok.kid hy2).2
    have hp := List.pairwise_iff_getElem.1 h.nd u k (by simpa using hu) (by simpa using hk) huk
    simp only [List.getElem_map] at hp
    exact hp e4.symm
  · obtain rfl : v = 0 := by omega
    have : l[0] = f := by have := h.hd; rw [List.head?_eq_getElem?,List.getElem?_eq_getElem hv] at this; exact Option.some.inj this
    rw [this] at hd
    omega
theorem BQ.next {t : T} (ok : Ok t) {f : S3} {k : Nat} {l : List S3} (h : BQ t f k l) (hk : k < l.length) : BQ t f (k + 1) (l ++ grp t l[k].1) := by
  have hfr := fun y hy => h.fresh ok hk (y := y) hy
  have hnl : 0 < l.length := by omega
  have hhk := (h.deep _ (List.getElem_mem hk)).2
  refine ⟨?_,?_,?_,?_,?_⟩
  · rw [List.head?_append,h.hd]; rfl
  · rw [List.map_append,grp_ids,List.nodup_append]
    exact ⟨h.nd,kids_nodup ok.nd _,fun a ha b hb e => hfr b hb (e ▸ ha)⟩
  · intro e he
    rcases List.mem_append.1 he with he | he
    · exact h.deep e he
    · have h1 : e.1 ∈ kids t l[k].1 := by rw [← grp_ids]; exact List.mem_map_of_mem he
      have h2 := depth_kid ok h1
      have h3 := (h.deep _ (List.getElem_mem hk)).1
      exact ⟨by omega,has_iff.2 (.inr (ok.kid h1).1)⟩
  · intro v hv h0
    by_cases hlt : v < l.length
    · obtain ⟨u,hu,j,e1,e2,e3,e4,e5,e6⟩ := h.up v hlt h0
      have g1 : (l ++ grp t l[k].1)[v] = l[v] := List.getElem_append_left hlt
      have g2 : (l ++ grp t l[k].1)[u]'(by rw [List.length_append]; omega) = l[u] := List.getElem_append_left hu
      refine ⟨u,by rw [List.length_append]; omega,j,e1,by omega,?_,?_,?_,?_⟩
      · rw [g1,g2]; exact e3
      · rw [g1]; exact e4
      · rw [g1,g2]; exact e5
      · rw [g2,List.take_append_of_le_length (by omega)]; exact e6
    · have hj : v - l.length < (grp t l[k].1).length := by rw [List.length_append] at hv; omega
      have g1 : (l ++ grp t l[k].1)[v] = (grp t l[k].1)[v - l.length] := List.getElem_append_right (by omega)
      have g2 : (l ++ grp t l[k].1)[k]'(by rw [List.length_append]; omega) = l[k] := List.getElem_append_left hk
      rw [grp_at] at g1
      have hj2 : v - l.length < (kids t l[k].1).length := by rw [← grp_len]; exact hj
      refine ⟨k,by rw [List.length_append]; omega,v - l.length,by omega,by omega,?_,?_,?_,?_⟩
      · rw [g1,g2]
      · rw [g1]
      · rw [g1,g2,List.getElem?_eq_getElem hj2]
      · rw [g2,List.take_append,List.take_of_length_le (by omega),List.map_append,List.map_take,grp_ids]
        conv => rhs; rw [← filter_take (kids_nodup ok.nd l[k].1)]
        refine List.filter_congr fun y hy => ?_
        have := hfr y hy
        simp only [List.mem_append,this,false_or]
  · intro u hu huk y hy
    rw [List.map_append,List.mem_append,grp_ids]
    by_cases hlt : u < l.length
    · have g2 : (l ++ grp t l[k].1)[u] = l[u] := List.getElem_append_left hlt
      rw [g2] at hy
      by_cases e : u = k
      · subst e; exact .inr hy
      · exact .inl (h.down u hlt (by omega) y hy)
    · omega
theorem BQ.len {t : T} {f : S3} {k : Nat} {l : List S3} (h : BQ t f k l) : l.length ≤ t.length + 1 := by
  have := len_of_sub (m := 0 :: ids t) h.nd fun y hy => by
    obtain ⟨e,he,rfl⟩ := List.mem_map.1 hy
    rcases has_iff.1 (h.deep e he).2 with e' | e'
    · rw [e']; exact List.mem_cons_self
    · exact List.mem_cons_of_mem _ e'
  simpa [ids] using this
theorem BQ.all {t : T} (ok : Ok t) {f : S3} {k : Nat} {l : List S3} (h : BQ t f k l) (hk : l.length ≤ k) (hf : f.1 ∈ ids t) {y : Int} : y ∈ l.map (·.1) ↔ y ∈ walk t f.1 := by
  have h0 : ∃ hl : 0 < l.length,l[0] = f := by
    have := h.hd
    rw [List.head?_eq_getElem?] at this
    obtain ⟨h1,h2⟩ := List.getElem?_eq_some_iff.1 this
    exact ⟨h1,h2⟩
  obtain ⟨hl0,e0⟩ := h0
  constructor
  · intro hm
    obtain ⟨e,he,rfl⟩ := List.mem_map.1 hm
    obtain ⟨v,hv,rfl⟩ := List.mem_iff_getElem.1 he
    clear hm he
    induction v using Nat.strongRecOn with
    | _ v ih =>
      by_cases hv0 : 0 < v
      · obtain ⟨u,hu,j,e1,-,-,-,e5,-⟩ := h.up v hv hv0
        exact walk_down ok (.inr hf) (ih u e1 hu) (List.mem_of_getElem? e5)
      · obtain rfl : v = 0 := by omega
        rw [e0,walk_eq ok]
        exact List.mem_cons_self
  · intro hm
    have key : ∀ n : Nat,∀ z,depth t z ≤ n → z ∈ walk t f.1 → z ∈ l.map (·.1) := by
      intro n
      induction n with
      | zero =>
        intro z hz hw
        rcases (walk_mem ok (.inr hf)).1 hw with e | e
        · rw [e,← e0]; exact List.mem_map_of_mem (List.getElem_mem hl0)
        · have := within_deep ok e; omega
      | succ n ih =>
        intro z hz hw
        rcases (walk_mem ok (.inr hf)).1 hw with e | e
        · rw [e,← e0]; exact List.mem_map_of_mem (List.getElem_mem hl0)
        · obtain ⟨hzi,-⟩ := within_has e
          have hd := depth_step ok hzi
          have hp : par t z ∈ walk t f.1 := by
            refine (walk_mem ok (.inr hf)).2 ?_
            exact (within_iff ok hzi (.inr hf)).1 e
          have := ih _ (by omega) hp
          obtain ⟨q,hq,eq⟩ := List.mem_map.1 this
          obtain ⟨u,hu,rfl⟩ := List.mem_iff_getElem.1 hq
          refine h.down u hu (by omega) z ?_
          rw [eq]
          exact kid_of hzi
    exact key _ y (Nat.le_refl _) hm
/-! ### Added again,row by row -/
theorem filter_more {l : List Int} (hn : l.Nodup) {P : Int → Prop} [DecidablePred P] {a : Int} {j : Nat} (hj : l[j]? = some a) (h : (l.filter fun y => decide (P y)) = l.take j) : (l.filter fun y => decide (P y ∨ y = a)) = ins j a (l.take j) := by
  obtain ⟨hlt,he⟩ := List.getElem?_eq_some_iff.1 hj
  have e1 : ins j a (l.take j) = l.take (j + 1) := by
    unfold ins
    rw [List.take_take,Nat.min_self,List.drop_take,Nat.sub_self,List.take_zero,List.take_succ_eq_append_getElem hlt,he]
  rw [e1]
  conv => rhs; rw [← filter_take hn (j + 1)]
  refine List.filter_congr fun y hy => ?_
  have h1 : P y ↔ y ∈ l.take j := by
    rw [← h,List.mem_filter]
    simp [hy]
  have h2 : y ∈ l.take (j + 1) ↔ y ∈ l.take j ∨ y = a := by
    rw [List.take_succ_eq_append_getElem hlt,List.mem_append,List.mem_singleton,he]
  exact decide_eq_decide.2 ((or_congr h1 Iff.rfl).trans h2.symm)
structure Back (t : T) (D : List Int) (l : List S3) (j : Nat) (u : T) : Prop where
  ok : Ok u
  kids : ∀ q,trm.kids u q = (trm.kids t q).filter fun y => decide (y ∉ D ∨ y ∈ (l.take j).map (·.1))
theorem Back.has {t u : T} {D : List Int} {l : List S3} {j : Nat} (h : Back t D l j u) {y : Int} : y ∈ ids u ↔ y ∈ ids t ∧ (y ∉ D ∨ y ∈ (l.take j).map (·.1)) := by
  have e : ∀ {v : T} {z : Int},z ∈ ids v ↔ ∃ p,z ∈ trm.kids v p := fun {v z} => by
    rw [mem_ids]
    exact exists_congr fun p => mem_kids.symm
  rw [e,e]
  constructor
  · rintro ⟨p,hp⟩
    rw [h.kids,List.mem_filter] at hp
    exact ⟨⟨p,hp.1⟩,by simpa using hp.2⟩
  · rintro ⟨⟨p,hp⟩,h2⟩
    refine ⟨p,?_⟩
    rw [h.kids,List.mem_filter]
    exact ⟨hp,by simpa using h2⟩
theorem Back.start {t : T} (ok : Ok t) {i : Int} (hi : i ∈ ids t) (l : List S3) : Back t (walk t i) l 0 (gone (walk t i) t) :=
  ⟨ok.gone hi,fun q => by rw [kids_gone]; refine List.filter_congr fun y _ => ?_; simp⟩
theorem Back.next {t u : T} (ok : Ok t) {f : S3} {k j : Nat} {l : List S3} (hf : f.1 ∈ ids t) (hp0 : f.2.1 = par t f.1) (hq0 : f.2.2 = idx (trm.kids t (par t f.1)) f.1) (h : BQ t f k l) (hk : l.length ≤ k) (hb : Back t (walk t f.1) l j u) (hj : j < l.length) :
    addS u l[j].1 l[j].2.1 l[j].2.2 = ((addS u l[j].1 l[j].2.1 l[j].2.2).1,0) ∧ Back t (walk t f.1) l (j + 1) (addS u l[j].1 l[j].2.1 l[j].2.2).1 ∧ l[j].1 ∈ ids t ∧ l[j].2.1 = par t l[j].1 := by
  have hall := fun y => h.all ok hk hf (y := y)
  have hme : ∀ v (hv : v < l.length),l[v].1 ∈ walk t f.1 := fun v hv => (hall _).1 (List.mem_map_of_mem (List.getElem_mem hv))
  have hit : ∀ v (hv : v < l.length),l[v].1 ∈ ids t := fun v hv => by
    rcases (walk_mem ok (.inr hf)).1 (hme v hv) with e | e
    · rw [e]; exact hf
    · exact (within_has e).1
  have hnj : l[j].1 ∉ (l.take j).map (·.1) := fun hm => by
    obtain ⟨e,he,e2⟩ := List.mem_map.1 hm
    obtain ⟨v,hv,rfl⟩ := List.mem_iff_getElem.1 he
    rw [List.length_take] at hv
    rw [List.getElem_take] at e2
    have := List.pairwise_iff_getElem.1 h.nd v j (by simp; omega) (by simpa using hj) (by omega)
    simp only [List.getElem_map] at this
    exact this e2
  have htk : (l.take (j + 1)).map (·.1) = (l.take j).map (·.1) ++ [l[j].1] := by rw [List.take_succ_eq_append_getElem hj,List.map_append]; rfl
  have hni : ¬ trm.has u l[j].1 = true := fun e => by
    rcases has_iff.1 e with e | e
    · exact ok.ne0 (hit j hj) e
    · exact (hb.has.1 e).2.elim (fun e => e (hme j hj)) hnj
  have hrng : 1 ≤ l[j].1 ∧ l[j].1 ≤ 65535 := by
    obtain ⟨p,hp⟩ := mem_ids.1 (hit j hj)
    exact ok.rng _ hp
  -- the parent and the place
  have hpp : trm.has u l[j].2.1 = true ∧ ∃ n : Nat,l[j].2.2 = (n : Int) ∧ n ≤ (trm.kids u l[j].2.1).length ∧ l[j].2.1 = par t l[j].1 ∧ ins n l[j].1 (trm.kids u l[j].2.1) = (trm.kids t l[j].2.1).filter fun y => decide (y ∉ walk t f.1 ∨ y ∈ (l.take (j + 1)).map (·.1)) := by
    by_cases h0 : 0 < j
    · obtain ⟨v,hv,n,e1,-,e3,e4,e5,e6⟩ := h.up j hj h0
      have hkv : l[j].1 ∈ trm.kids t l[v].1 := List.mem_of_getElem? e5
      obtain ⟨hn,-⟩ := List.getElem?_eq_some_iff.1 e5
      have hmv : l[v].1 ∈ (l.take j).map (·.1) := by
        refine List.mem_map.2 ⟨(l.take j)[v]'(by rw [List.length_take]; omega),List.getElem_mem _,?_⟩
        rw [List.getElem_take]
      have hku : trm.kids u l[v].1 = (trm.kids t l[v].1).take n := by
        rw [hb.kids,← e6]
        refine List.filter_congr fun y hy => ?_
        have : y ∈ walk t f.1 := walk_down ok (.inr hf) (hme v hv) hy
        simp [this]
      rw [e3]
      refine ⟨has_iff.2 (.inr (hb.has.2 ⟨hit v hv,.inr hmv⟩)),n,e4,?_,(ok.kid hkv).2.symm,?_⟩
      · rw [hku,List.length_take]; omega
      · rw [hku,htk]
        have e7 : ((trm.kids t l[v].1).filter fun y => decide (y ∉ walk t f.1 ∨ y ∈ (l.take j).map (·.1))) = (trm.kids t l[v].1).take n := by rw [← hb.kids,hku]
        have := filter_more (kids_nodup ok.nd l[v].1) e5 e7
        rw [← this]
        refine List.filter_congr fun y _ => ?_
        simp [or_assoc]
    · obtain rfl : j = 0 := by omega
      have e0 : l[0] = f := by have := h.hd; rw [List.head?_eq_getElem?,List.getElem?_eq_getElem hj] at this; exact Option.some.inj this
      obtain ⟨hpi,hpw⟩ := not_within_par ok hf
      have hpar := ok.par_ok hf
      have hnw : par t f.1 ∉ walk t f.1 := fun e => by
        rcases (walk_mem ok (.inr hf)).1 e with e | e
        · exact hpi e
        · rw [hpw] at e; cases e
      have hku : trm.kids u (par t f.1) = (trm.kids t (par t f.1)).filter fun y => decide (y ≠ f.1) := by
        rw [hb.kids,← kids_left ok hf hnw,kids_gone]
        refine List.filter_congr fun y _ => ?_
        simp
      have hkm := kid_of hf
      have hlt : (trm.kids t (par t f.1)).idxOf f.1 < (trm.kids t (par t f.1)).length := List.idxOf_lt_length_of_mem hkm
      have hge : (trm.kids t (par t f.1))[(trm.kids t (par t f.1)).idxOf f.1] = f.1 := List.getElem_idxOf hlt
      have hib := ins_back hlt (kids_nodup ok.nd (par t f.1))
      rw [hge] at hib
      rw [e0,hp0]
      refine ⟨?_,(trm.kids t (par t f.1)).idxOf f.1,?_,?_,rfl,?_⟩
      · rcases hpar with e | e
        · rw [e]; exact has_iff.2 (.inl rfl)
        · exact has_iff.2 (.inr (hb.has.2 ⟨e,.inl hnw⟩))
      · rw [hq0]; unfold idx; rw [if_pos hkm]
      · rw [hku]
        have := congrArg List.length hib
        unfold ins at this
        rw [List.length_append,List.length_cons,List.length_take,List.length_drop] at this
        omega
      · rw [hku,hib]
        refine (List.filter_eq_self.2 fun y hy => ?_).symm
        rw [decide_eq_true_eq]
        by_cases e : y = f.1
        · refine .inr ?_
          rw [htk,e0,e]
          simp
        · refine .inl fun hw => ?_
          have h1 := kids_left ok hf hnw
          rw [kids_gone] at h1
          have h2 : y ∈ (trm.kids t (par t f.1)).filter fun k => decide (k ≠ f.1) := List.mem_filter.2 ⟨hy,by simpa using e⟩
          rw [← h1,List.mem_filter] at h2
          simp at h2
          exact h2.2 hw
  obtain ⟨hhp,n,en,hle,epar,hins⟩ := hpp
  have hadd : addS u l[j].1 l[j].2.1 l[j].2.2 = (put (l[j].1,l[j].2.1) n u,0) := by
    unfold addS
    rw [if_neg (by omega),if_neg hni,if_neg (by rw [hhp]; simp),if_neg (by rw [en]; omega),en,Int.toNat_natCast]
  rw [hadd]
  refine ⟨rfl,⟨by have := (addS_ok hb.ok l[j].1 l[j].2.1 l[j].2.2).1; rw [hadd] at this; exact this,fun q => ?_⟩,hit j hj,epar⟩
  rw [kids_put hb.ok.nd hle]
  by_cases hq : q = l[j].2.1
  · rw [if_pos hq,hq]; exact hins
  · rw [if_neg hq,hb.kids,htk]
    refine List.filter_congr fun y hy => ?_
    have : y ≠ l[j].1 := fun e => hq (by rw [epar,← e]; exact (ok.kid hy).2.symm)
    simp [this]
theorem Back.end_ {t u : T} (ok : Ok t) {f : S3} {k : Nat} {l : List S3} (hf : f.1 ∈ ids t) (h : BQ t f k l) (hk : l.length ≤ k) (hb : Back t (walk t f.1) l l.length u) (q : Int) : trm.kids u q = trm.kids t q := by
  rw [hb.kids,List.take_length]
  refine List.filter_eq_self.2 fun y _ => ?_
  rw [decide_eq_true_eq,h.all ok hk hf]
  exact (Decidable.em _).symm
theorem Back.len {t u : T} {D : List Int} {l : List S3} {j : Nat} (h : Back t D l j u) : u.length ≤ t.length := by
  have := len_of_sub (m := ids t) h.ok.nd fun y hy => (h.has.1 hy).1
  simpa [ids] using this
end Go.Proofs.YtehmblcbccceaaaGreat.trm
