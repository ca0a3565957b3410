import Derived.Test.YtehmblcbccceaaaGreatKSdf
namespace Go.Proofs.YtehmblcbccceaaaGreat
open Go.RowKit pxm imm trm Go.Maps
def likeW (x y : PSc) : Prop := x.t = y.t ∧ x.nd = y.nd
theorem likeW.refl (x : PSc) : likeW x x := ⟨rfl,rfl⟩
theorem doS_like {M : Int} {x y : PSc} (h : likeW x y) (o : Op9) : likeW (doS M x o).1 (doS M y o).1 ∧ (doS M x o).2 = (doS M y o).2 := by
 obtain ⟨t,nd,ws⟩ := x
 obtain ⟨t',nd',ws'⟩ := y
 obtain ⟨rfl,rfl⟩ := h
 simp only
 unfold doS
 by_cases h1 : o.k = 1
 ·rw [if_pos h1,if_pos h1]
  unfold createS
  split
  ·exact ⟨likeW.refl _ |>.imp id id,rfl⟩
  ·split
   ·exact ⟨⟨rfl,rfl⟩,rfl⟩
   ·exact ⟨⟨rfl,rfl⟩,rfl⟩
 rw [if_neg h1,if_neg h1]
 by_cases h2 : o.k = 2
 ·rw [if_pos h2,if_pos h2]
  unfold removeS
  split <;> exact ⟨⟨rfl,rfl⟩,rfl⟩
 rw [if_neg h2,if_neg h2]
 by_cases h3 : o.k = 3
 ·rw [if_pos h3,if_pos h3]
  unfold moveS
  split <;> exact ⟨⟨rfl,rfl⟩,rfl⟩
 rw [if_neg h3,if_neg h3]
 by_cases h4 : 4 ≤ o.k ∧ o.k ≤ 8
 ·rw [if_pos h4,if_pos h4]
  unfold setS
  split
  ·exact ⟨⟨rfl,rfl⟩,rfl⟩
  ·split <;> exact ⟨⟨rfl,rfl⟩,rfl⟩
 ·rw [if_neg h4,if_neg h4]; exact ⟨⟨rfl,rfl⟩,rfl⟩
theorem allS_like {M : Int} : ∀ (l : List Op9) {x y : PSc},likeW x y → likeW (allS M x l).1 (allS M y l).1 ∧ (allS M x l).2 = (allS M y l).2
 | [],_,_,h => ⟨h,rfl⟩
 | o :: l,x,y,h => by
  obtain ⟨h1,h2⟩ := doS_like (M := M) h o
  rw [allS_cons,allS_cons,h2]
  by_cases e : (doS M y o).2 ≠ 0
  ·rw [if_pos e,if_pos e]; exact ⟨h,rfl⟩
  ·rw [if_neg e,if_neg e]
   obtain ⟨h3,h4⟩ := allS_like l h1
   exact ⟨h3,by simp only [h4]⟩
theorem setSt_like {x y : PSc} (h : likeW x y) : likeW (setSt x).1 (setSt y).1 ∧ (setSt x).2 = (setSt y).2 := by
 obtain ⟨t,nd,ws⟩ := x
 obtain ⟨t',nd',ws'⟩ := y
 obtain ⟨rfl,rfl⟩ := h
 refine ⟨⟨by rw [setSt_t,setSt_t],by rw [setSt_nd,setSt_nd]⟩,?_⟩
 unfold setSt
 simp only
 split <;> rfl
theorem setSt_self (x : PSc) : likeW (setSt x).1 x := ⟨setSt_t x,setSt_nd x⟩
theorem allS_append {M : Int} : ∀ (a b : List Op9) (x : PSc),allS M x (a ++ b) = if (allS M x a).2.2 ≠ 0 then allS M x a else ((allS M (allS M x a).1 b).1,(allS M x a).2.1 + (allS M (allS M x a).1 b).2.1,(allS M (allS M x a).1 b).2.2)
 | [],b,x => by simp [allS]
 | o :: a,b,x => by
  rw [List.cons_append,allS_cons,allS_cons]
  by_cases e : (doS M x o).2 ≠ 0
  ·rw [if_pos e,if_pos e,if_pos e]
  ·rw [if_neg e,if_neg e,allS_append a b]
   by_cases e2 : (allS M (doS M x o).1 a).2.2 ≠ 0
   ·rw [if_pos e2,if_pos e2]
   ·rw [if_neg e2,if_neg e2]
    simp only [Nat.add_right_comm]
theorem allS_full {M : Int} : ∀ (l : List Op9) (x : PSc),(allS M x l).2.2 = 0 → (allS M x l).2.1 = l.length
 | [],_,_ => rfl
 | o :: l,x,h => by
  rw [allS_cons] at h ⊢
  by_cases e : (doS M x o).2 ≠ 0
  ·rw [if_pos e] at h; exact absurd h e
  ·rw [if_neg e] at h ⊢
   simp only [List.length_cons]
   rw [allS_full l _ h]
theorem applyS_ok {M : Int} {x : PSc} {l : List Op9} (h : (applyS M setSt x l).2.2 = 0) : l.length ≤ 1024 ∧ (allS M x l).2.2 = 0 ∧ (setSt (allS M x l).1).2 = 0 ∧ applyS M setSt x l = ((setSt (allS M x l).1).1,((l.length : Nat) : Int),0) := by
 unfold applyS at h ⊢
 by_cases h1 : 1024 < l.length
 ·rw [if_pos h1] at h; cases h
 rw [if_neg h1] at h ⊢
 by_cases h2 : (allS M x l).2.2 ≠ 0
 ·rw [if_pos h2] at h; exact absurd h h2
 rw [if_neg h2] at h ⊢
 by_cases h3 : (setSt (allS M x l).1).2 ≠ 0
 ·rw [if_pos h3] at h; exact absurd h h3
 rw [if_neg h3]
 have h2' : (allS M x l).2.2 = 0 := by simpa using h2
 refine ⟨by omega,h2',by simpa using h3,?_⟩
 rw [allS_full l x h2']
theorem applyS_not {M : Int} {x : PSc} {l : List Op9} (h : (applyS M setSt x l).2.2 ≠ 0) : (applyS M setSt x l).1 = x := by
 unfold applyS at h ⊢
 by_cases h1 : 1024 < l.length
 ·rw [if_pos h1]
 rw [if_neg h1] at h ⊢
 by_cases h2 : (allS M x l).2.2 ≠ 0
 ·rw [if_pos h2]
 rw [if_neg h2] at h ⊢
 by_cases h3 : (setSt (allS M x l).1).2 ≠ 0
 ·rw [if_pos h3]
 ·rw [if_neg h3] at h; exact absurd rfl h
theorem applyS_two {M : Int} {x : PSc} {a b : List Op9} (hl : a.length + b.length ≤ 1024) (ha : (applyS M setSt x a).2.2 = 0) :
  ((applyS M setSt (applyS M setSt x a).1 b).2.2 ≠ 0 → applyS M setSt x (a ++ b) = (x,(a.length : Int) + (applyS M setSt (applyS M setSt x a).1 b).2.1,(applyS M setSt (applyS M setSt x a).1 b).2.2)) ∧
  ((applyS M setSt (applyS M setSt x a).1 b).2.2 = 0 → likeW (applyS M setSt x (a ++ b)).1 (applyS M setSt (applyS M setSt x a).1 b).1 ∧ (applyS M setSt x (a ++ b)).2 = ((a.length : Int) + (b.length : Int),0)) := by
 obtain ⟨h1,h2,h3,h4⟩ := applyS_ok ha
 rw [h4]
 simp only
 have hk := setSt_self (allS M x a).1
 generalize (setSt (allS M x a).1).1 = y at *
 obtain ⟨k1,k2⟩ := allS_like (M := M) b hk
 have hap := allS_append (M := M) a b x
 rw [if_neg (by rw [h2]; simp),allS_full a x h2] at hap
 have hlen : ¬ 1024 < (a ++ b).length := by rw [List.length_append]; omega
 obtain ⟨s1,s2⟩ := setSt_like k1
 have e2 : (allS M y b).2.2 = (allS M (allS M x a).1 b).2.2 := by rw [k2]
 have e1 : (allS M y b).2.1 = (allS M (allS M x a).1 b).2.1 := by rw [k2]
 generalize hz : allS M (allS M x a).1 b = z at *
 obtain ⟨z1,z2,z3⟩ := z
 simp only at hap e1 e2 s1 s2
 unfold applyS
 rw [if_neg (show ¬ 1024 < b.length by omega),if_neg hlen,hap,e2,e1]
 simp only
 by_cases h5 : z3 ≠ 0
 ·rw [if_pos h5,if_pos h5]
  refine ⟨fun _ => ?_,fun e => absurd e h5⟩
  simp
 ·rw [if_neg h5,if_neg h5,← s2]
  by_cases h6 : (setSt (allS M y b).1).2 ≠ 0
  ·rw [if_pos h6,if_pos h6]
   refine ⟨fun _ => ?_,fun e => absurd e h6⟩
   simp [s2]
  ·rw [if_neg h6,if_neg h6]
   refine ⟨fun e => absurd rfl e,fun _ => ⟨⟨s1.1.symm,s1.2.symm⟩,?_⟩⟩
   have := allS_full (M := M) b y (by rw [e2]; simpa using h5)
   rw [← e1,this]
   simp
theorem same_like {x y : PSc} (h : likeW x y) : same x y := ⟨fun q => by rw [h.1],fun i _ => by rw [h.2]; exact eqN_self _⟩
end Go.Proofs.YtehmblcbccceaaaGreat
