import Derived.Test.YtehmblcbccceaaaGreatLScw
namespace Go.Proofs.YtehmblcbccceaaaGreat
open Go.RowKit pxm imm trm Go.Maps
structure UnI (t : T) (Sn : Int → Prop) (i : Int) (k : Nat) (next row : List Int) : Prop where
  nx : next = i :: row.flatMap (kids t)
  sub : ∀ j,j ∈ row ↔ j ∈ next.take k ∧ ¬ Sn j
  le : k ≤ next.length
  nd : next.Nodup
  rnd : row.Nodup
  deep : ∀ j ∈ next,has t j = true ∧ depth t i ≤ depth t j
  inw : ∀ j ∈ next,j = i ∨ within t j i = true
  up : ∀ v (hv : v < row.length),v = 0 ∨ par t row[v] ∈ row.take v
theorem UnI.start {t : T} {Sn : Int → Prop} {i : Int} (hi : has t i = true) : UnI t Sn i 0 [i] [] :=
  ⟨rfl,by simp,Nat.zero_le _,by simp,by simp,fun j hj => by rw [List.mem_singleton.1 hj]; exact ⟨hi,Nat.le_refl _⟩,fun j hj => .inl (List.mem_singleton.1 hj),fun v hv => absurd hv (by simp)⟩
section
variable {t : T} {Sn : Int → Prop} {i : Int} {k : Nat} {next row : List Int}
theorem UnI.len (h : UnI t Sn i k next row) : next.length ≤ t.length + 1 := by
  have := len_of_sub (m := 0 :: ids t) h.nd fun x hx => by
    rcases has_iff.1 (h.deep x hx).1 with e | e
    · exact List.mem_cons.2 (.inl e)
    · exact List.mem_cons_of_mem _ e
  rwa [List.length_cons,ids_len] at this
theorem UnI.skip (h : UnI t Sn i k next row) (hk : k < next.length) (hs : Sn next[k]) : UnI t Sn i (k + 1) next row := by
  refine ⟨h.nx,fun j => ?_,hk,h.nd,h.rnd,h.deep,h.inw,h.up⟩
  rw [h.sub,List.take_succ_eq_append_getElem hk,List.mem_append,List.mem_singleton]
  constructor
  · exact fun h1 => ⟨.inl h1.1,h1.2⟩
  · rintro ⟨h1 | h1,h2⟩
    · exact ⟨h1,h2⟩
    · exact absurd (h1 ▸ hs) h2
theorem UnI.new (h : UnI t Sn i k next row) (hk : k < next.length) : next[k] ∉ row := fun h1 => by
  have h2 := ((h.sub _).1 h1).1
  obtain ⟨u,hu,e⟩ := List.mem_iff_getElem.1 h2
  rw [List.getElem_take] at e
  have hu2 : u < k := by rw [List.length_take] at hu; omega
  have := List.pairwise_iff_getElem.1 h.nd u k (by omega) hk hu2
  exact this e
theorem UnI.go (ok : Ok t) (hi : i = 0 ∨ i ∈ ids t) (h : UnI t Sn i k next row) (hk : k < next.length) (hs : ¬ Sn next[k]) : UnI t Sn i (k + 1) (next ++ kids t next[k]) (row ++ [next[k]]) := by
  have hnew := h.new hk
  have hdk := h.deep _ (List.getElem_mem hk)
  obtain ⟨y,hy⟩ : ∃ y,next[k] = y := ⟨_,rfl⟩
  rw [hy] at hs hnew hdk ⊢
  have hfresh : ∀ c ∈ kids t y,c ∉ next := fun c hc hm => by
    have hp := (ok.kid hc).2
    have hd := depth_kid ok hc
    rw [h.nx] at hm
    rcases List.mem_cons.1 hm with e | e
    · rw [e] at hd; omega
    · obtain ⟨r,hr,hcr⟩ := List.mem_flatMap.1 e
      have := (ok.kid hcr).2
      exact hnew (by rw [← hp,this]; exact hr)
  refine ⟨by rw [h.nx,List.flatMap_append]; simp,fun j => ?_,by rw [List.length_append]; omega,?_,?_,fun j hj => ?_,fun j hj => ?_,fun v hv => ?_⟩
  · rw [List.mem_append,List.mem_singleton,h.sub,List.take_append_of_le_length (by omega),List.take_succ_eq_append_getElem hk,List.mem_append,List.mem_singleton,hy]
    constructor
    · rintro (h1 | h1)
      · exact ⟨.inl h1.1,h1.2⟩
      · exact ⟨.inr h1,h1 ▸ hs⟩
    · rintro ⟨h1 | h1,h2⟩
      · exact .inl ⟨h1,h2⟩
      · exact .inr h1
  · exact List.nodup_append.2 ⟨h.nd,kids_nodup ok.nd y,fun a ha b hb e => hfresh b hb (e ▸ ha)⟩
  · exact List.nodup_append.2 ⟨h.rnd,by simp,fun a ha b hb e => hnew (by rw [← List.mem_singleton.1 hb,← e]; exact ha)⟩
  · rcases List.mem_append.1 hj with hj | hj
    · exact h.deep j hj
    · exact ⟨has_iff.2 (.inr (ok.kid hj).1),by have := depth_kid ok hj; omega⟩
  · rcases List.mem_append.1 hj with hj | hj
    · exact h.inw j hj
    · right
      obtain ⟨h1,h2⟩ := ok.kid hj
      rw [trm.within_iff ok h1 hi,h2]
      exact h.inw y (by rw [← hy]; exact List.getElem_mem hk)
  · by_cases hlt : v < row.length
    · rw [List.getElem_append_left hlt,List.take_append_of_le_length (by omega)]
      exact h.up v hlt
    · rw [List.length_append,List.length_singleton] at hv
      obtain rfl : v = row.length := by omega
      have hym : y ∈ next := by rw [← hy]; exact List.getElem_mem hk
      simp only [List.getElem_append_right (Nat.le_refl _),Nat.sub_self,List.getElem_singleton,List.take_left]
      rw [h.nx] at hym
      rcases List.mem_cons.1 hym with e | e
      · left
        cases hr : row with
        | nil => rfl
        | cons a l =>
          exfalso
          have h0 : k = 0 := by
            rcases Nat.eq_zero_or_pos k with h0 | h0
            · exact h0
            · have hz : next[0]'(by omega) = i := by simp only [h.nx,List.getElem_cons_zero]
              have := List.pairwise_iff_getElem.1 h.nd 0 k (by omega) hk h0
              exact absurd (hz.trans (e.symm.trans hy.symm)) this
          have := (h.sub a).1 (by rw [hr]; exact List.mem_cons_self)
          rw [h0] at this
          simp at this
      · right
        obtain ⟨r,hr,hyr⟩ := List.mem_flatMap.1 e
        rw [(ok.kid hyr).2]
        exact hr
theorem UnI.done (ok : Ok t) (h : UnI t Sn i k next row) (hk : next.length ≤ k) (hcl : ∀ j,Sn j → ∀ c ∈ kids t j,Sn c) (hi : i = 0 ∨ i ∈ ids t) (j : Int) : j ∈ row ↔ (j = i ∨ within t j i = true) ∧ ¬ Sn j := by
  have hsub := h.sub
  rw [List.take_of_length_le hk] at hsub
  constructor
  · intro hj
    exact ⟨h.inw j ((hsub j).1 hj).1,((hsub j).1 hj).2⟩
  · rintro ⟨hj,hs⟩
    obtain ⟨n,hn⟩ : ∃ n,depth t j ≤ n := ⟨_,Nat.le_refl _⟩
    induction n generalizing j with
    | zero =>
      rcases hj with rfl | hj
      · exact (hsub _).2 ⟨by rw [h.nx]; exact List.mem_cons_self,hs⟩
      · have := within_deep ok hj; omega
    | succ n ih =>
      rcases hj with rfl | hj
      · exact (hsub _).2 ⟨by rw [h.nx]; exact List.mem_cons_self,hs⟩
      · have hjj := (within_has hj).1
        have hk := kid_of hjj
        have hp := (trm.within_iff ok hjj hi).1 hj
        have hd := depth_kid ok hk
        have hr := ih (par t j) hp (fun e => hs (hcl _ e j hk)) (by omega)
        exact (hsub j).2 ⟨by rw [h.nx]; exact List.mem_cons_of_mem _ (List.mem_flatMap.2 ⟨_,hr,hk⟩),hs⟩
end
end Go.Proofs.YtehmblcbccceaaaGreat
