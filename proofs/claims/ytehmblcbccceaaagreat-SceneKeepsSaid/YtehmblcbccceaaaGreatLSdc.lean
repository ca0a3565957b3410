import Derived.Test.YtehmblcbccceaaaGreatLSdb
namespace Go.Proofs.YtehmblcbccceaaaGreat
open Go.RowKit pxm imm trm Go.Maps
theorem eqN_iff {n1 n2 : Nd} : eqN n1 n2 = true ↔ n1 = n2 := by
 obtain ⟨m1,o1,h1,c1,r1,k1,W1,H1,p1,iw1,ih1,l1⟩ := n1
 obtain ⟨m2,o2,h2,c2,r2,k2,W2,H2,p2,iw2,ih2,l2⟩ := n2
 unfold eqN eqNd eqLk eqB
 simp only [Bool.and_eq_true,decide_eq_true_eq,beq_iff_eq,Nd.mk.injEq,Lk.mk.injEq]
 constructor
 ·rintro ⟨a,b,c,d,e,f,g,h,i,j,k,l⟩
  exact ⟨a,c,d,e,b,f,g,h,by omega,j,k,l⟩
 ·rintro ⟨a,b,c,d,e,f,g,h,i,j,k,l⟩
  exact ⟨a,e,b,c,d,f,g,h,by omega,j,k,l⟩
theorem eqN_self (n : Nd) : eqN n n = true := eqN_iff.2 rfl
theorem same_self (x : PSc) : same x x := ⟨fun _ => rfl,fun _ _ => eqN_self _⟩
def Lk.o : Lk := ⟨0,0,0,0,0,0,[]⟩
def Op9.o : Op9 := ⟨0,0,0,0,Mp.o,Bx.o,false,0,Lk.o⟩
def PSc.new : PSc := ⟨[],fun _ => Nd.plain,fun _ => Mp.one⟩
theorem fit_lko : Fit { Nd.plain with lk := Lk.o } := ⟨by decide,(by intro z hz; cases hz),by decide⟩
theorem PSc.new_sane : Sane PSc.new := ⟨ok_nil,fun _ => plain_chk,fun i hi _ _ => by
 have : i = 0 := by
  rcases has_iff.1 hi with e | e
  ·exact e
  ·cases e
 subst this
 rw [worldOf_0]
 rfl,fun _ => fit_plain⟩
def aw1 : Op9 := { Op9.o with k := 1,i := 1 }
def aw2 : Op9 := { Op9.o with k := 4,i := 1,m := ⟨65536,0,0,65536,196608,0⟩ }
def aw3 : Op9 := { Op9.o with k := 4,m := ⟨65536,0,0,65536,0,65536⟩ }
def aw4 : Op9 := { Op9.o with k := 8,on := true }
def aw5 : Op9 := { Op9.o with k := 1,i := 2 }
theorem aw_ok {o : Op9} (h : o = aw1 ∨ o = aw2 ∨ o = aw3 ∨ o = aw4 ∨ o = aw5) : OpOk o := by
 rcases h with rfl | rfl | rfl | rfl | rfl <;> exact ⟨⟨by decide,by decide⟩,⟨by decide,by decide⟩,fit_lko⟩
def awT : T := [(1,0)]
def awN : Int → Nd := upd (upd (upd (fun _ => Nd.plain) 1 Nd.plain) 1 (setN Nd.plain aw2)) 0 (setN Nd.plain aw3)
theorem aw_all : allS 2 PSc.new [aw1,aw2,aw3] = (⟨awT,awN,upd (fun _ => Mp.one) 1 Mp.o⟩,3,0) := by
 have e1 : doS 2 PSc.new aw1 = (⟨awT,upd (fun _ => Nd.plain) 1 Nd.plain,upd (fun _ => Mp.one) 1 Mp.o⟩,0) := rfl
 have e2 : doS 2 ⟨awT,upd (fun _ => Nd.plain) 1 Nd.plain,upd (fun _ => Mp.one) 1 Mp.o⟩ aw2 = (⟨awT,upd (upd (fun _ => Nd.plain) 1 Nd.plain) 1 (setN Nd.plain aw2),upd (fun _ => Mp.one) 1 Mp.o⟩,0) := rfl
 have e3 : doS 2 ⟨awT,upd (upd (fun _ => Nd.plain) 1 Nd.plain) 1 (setN Nd.plain aw2),upd (fun _ => Mp.one) 1 Mp.o⟩ aw3 = (⟨awT,awN,upd (fun _ => Mp.one) 1 Mp.o⟩,0) := rfl
 rw [allS_cons,e1]
 simp only [ne_eq,not_true_eq_false,if_false]
 rw [allS_cons,e2]
 simp only [ne_eq,not_true_eq_false,if_false]
 rw [allS_cons,e3]
 simp only [ne_eq,not_true_eq_false,if_false]
 rfl
theorem aw_ids : 1 ∈ ids awT := by decide
theorem aw_okT : Ok awT := (addS_ok ok_nil 1 0 0).1
theorem aw_world1 : worldOf awT awN 1 = some ⟨65536,0,0,65536,196608,65536⟩ := by
 rw [worldOf_step aw_okT _ aw_ids,show par awT 1 = 0 from by decide,worldOf_0]
 decide
theorem aw_has {i : Int} (h : has awT i = true) : i = 0 ∨ i = 1 := by
 rcases has_iff.1 h with e | e
 ·exact .inl e
 ·right
  simpa [awT,ids] using e
noncomputable def awY : PSc := (setSt ⟨awT,awN,upd (fun _ => Mp.one) 1 Mp.o⟩).1
theorem aw_set : setSt ⟨awT,awN,upd (fun _ => Mp.one) 1 Mp.o⟩ = (awY,0) := by
 have : (setSt ⟨awT,awN,upd (fun _ => Mp.one) 1 Mp.o⟩).2 = 0 := by
  unfold setSt
  rw [if_pos fun i hi => ?_]
  rcases aw_has hi with rfl | rfl
  ·show worldOf awT awN 0 ≠ none
   rw [worldOf_0]; simp
  ·show worldOf awT awN 1 ≠ none
   rw [aw_world1]; simp
 show setSt _ = _
 rw [← this]
 rfl
theorem awY_t : awY.t = awT := setSt_t _
theorem awY_nd : awY.nd = awN := setSt_nd _
theorem awY_ws : awY.ws 1 = ⟨65536,0,0,65536,196608,65536⟩ := by
 have h := aw_set
 unfold awY
 unfold setSt at h ⊢
 split
 ·show (worldOf awT awN 1).getD (upd (fun _ => Mp.one) 1 Mp.o 1) = _
  rw [aw_world1]
  rfl
 ·rename_i h1
  rw [if_neg h1] at h
  injection h with _ h
  cases h
theorem aw_apply : applyS 2 setSt PSc.new [aw1,aw2,aw3] = (awY,3,0) := by
 unfold applyS
 rw [if_neg (by decide),aw_all,if_neg (by simp),aw_set,if_neg (by simp)]
 rfl
theorem aw_apply2 {x : PSc} (ht : x.t = awT) : applyS 2 setSt x [aw4,aw5] = (x,1,36) := by
 obtain ⟨t,nd,ws⟩ := x
 subst ht
 have e1 : doS 2 ⟨awT,nd,ws⟩ aw4 = (⟨awT,upd nd 0 (setN (nd 0) aw4),ws⟩,0) := rfl
 have e2 : doS 2 ⟨awT,upd nd 0 (setN (nd 0) aw4),ws⟩ aw5 = (⟨awT,upd nd 0 (setN (nd 0) aw4),ws⟩,36) := rfl
 have e3 : allS 2 ⟨awT,nd,ws⟩ [aw4,aw5] = (⟨awT,upd nd 0 (setN (nd 0) aw4),ws⟩,1,36) := by
  rw [allS_cons,e1]
  simp only [ne_eq,not_true_eq_false,if_false]
  rw [allS_cons,e2,if_pos (by simp)]
 unfold applyS
 rw [if_neg (by decide),e3,if_pos (by simp)]
 rfl
theorem awY_sane : Sane awY := by
 have := PSc.new_sane.apply (M := 2) (l := [aw1,aw2,aw3]) fun o ho => by
  simp only [List.mem_cons,List.not_mem_nil,or_false] at ho
  exact aw_ok (by rcases ho with h | h | h <;> simp [h])
 rw [aw_apply] at this
 exact this
end Go.Proofs.YtehmblcbccceaaaGreat
