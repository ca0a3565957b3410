import Derived.Test.YtehmblcbccceaaaGreatKSdg
namespace Go.Proofs.YtehmblcbccceaaaGreat
open Go.RowKit pxm imm trm Go.Maps
theorem SceneAt.other {w w' : World} {g b m : Nat} {s : Sh} {Z : ZZ} {x : PSc} (h : SceneAt w g b m s Z x) {S S' : Bset} (ht : TurnP S S' w w') (hS : ∀ k,S k → Z.3 k) {E' : Bset} (hE : ∀ k,E' k → k < w'.heap.size ∧ (Z.3 k ∨ w.heap.size ≤ k)) : SceneAt w' g b m s ⟨Z.1,Z.2,E'⟩ x :=
 h.part (fun k hk hn => (ht.far k hk fun e => hn (hS k e)).2) hE
theorem TurnP.new {S S' : Bset} {w w' : World} (ht : TurnP S S' w w') {k : Nat} (hk : S' k) : S k ∨ w.heap.size ≤ k := by
 by_cases h1 : S k
 ·exact .inl h1
 ·right
  by_cases h2 : k < w.heap.size
  ·exact absurd hk (ht.far k h2 h1).1
  ·omega
theorem SOwn.appB {α : Type} {T : TypeId} {k : Nat} {enc : α → List Value} {w : World} {base : Nat} {v : Value} {l : List α} {P : Program} {ts : TypeId} {z : Value} {by_ : Nat} (hu : P.underlying ts = some (.slice T)) (hinf : (P.info? T).map (fun i => (i.zero,i.size,i.bytes)) = some (some z,k,by_)) (hz : z.cells.size = k) (hk0 : 0 < k)
  (hk : ∀ x,(enc x).length = k) (hplain : ∀ x,∀ u ∈ enc x,u.oneCell' = true)
  (h : SOwn T k enc w base v l) {xs : List α} {A : Option Addr} {c : Nat} (hx : SRow k enc w A xs) (hn : l.length + xs.length ≤ maxLen) (hb : (l.length + xs.length) * by_ ≤ 140737488355328) (hbase : base ≤ w.heap.size) :
  ∃ v' w',(Builtin.append_ #[ts,ts] ts #[v,.slice A xs.length c]).run P w = .ok v' w' ∧ SOwn T k enc w' base v' (l ++ xs) ∧ w.grownBy w' v.ownBlock ∧ (v'.ownBlock = v.ownBlock ∨ v'.ownBlock = some w.heap.size) := by
 obtain ⟨i,hi,hz',hsize,hbyt⟩ : ∃ i,P.info? T = some i ∧ i.zero = some z ∧ i.size = k ∧ i.bytes = by_ := by
  cases hI : P.info? T with
  | none => rw [hI] at hinf; cases hinf
  | some i =>
   rw [hI] at hinf
   simp only [Option.map_some,Option.some.injEq,Prod.mk.injEq] at hinf
   exact ⟨i,rfl,hinf.1,hinf.2.1,hinf.2.2⟩
 by_cases hne : xs = []
 ·subst hne
  obtain ⟨A2,c2,rfl,hle,-,-⟩ := SOwn.row h hk
  refine ⟨.slice A2 l.length c2,w,?_,by simpa using h,World.grownBy.refl _ _,.inl rfl⟩
  rw [show (([] : List α).length) = 0 from rfl]
  cases A with
  | none => cases A2 <;> simp [Builtin.append_,run_underlying hu,sizeOf,typeInfo,hi,Builtin.lenOf,hle,run_firstCells_none,storeCells]
  | some a =>
   have hf := run_firstCells_some (P := P) w i.size 0 a 0 c [] (by simp) (by simp)
   cases A2 <;> simp [Builtin.append_,run_underlying hu,sizeOf,typeInfo,hi,Builtin.lenOf,hle,hf,storeCells,Result.andThen]
 obtain ⟨g,o,rfl,hc⟩ := hx (List.length_pos_iff.2 hne)
 have hadd : ∀ j,(⟨g,o,none⟩ : Addr).add j = ⟨g,o + j,none⟩ := fun j => by unfold Addr.add; split <;> simp_all
 obtain ⟨v',w',hrun,ho,hg,-,hat⟩ := run_append_own_at (P := P) w base ts ts T i _ k by_ hu hi hz' hsize hbyt hz hk0 v l.length _ h ⟨g,o,none⟩ xs.length c
  (xs.flatMap enc) (flat_len hk xs) (by
   intro j u hj
   rw [hadd]
   have hlen := flat_len hk xs
   have hjl := (List.getElem?_eq_some_iff.1 hj).1
   rw [hlen] at hjl
   have hq : j / k < xs.length := by rw [Nat.div_lt_iff_lt_mul hk0]; exact hjl
   have hr : j % k < k := Nat.mod_lt _ hk0
   obtain ⟨y,hy⟩ : ∃ y,(enc xs[j / k])[j % k]? = some y := ⟨(enc xs[j / k])[j % k]'(by rw [hk]; exact hr),List.getElem?_eq_getElem (by rw [hk]; exact hr)⟩
   have h1 := flat_at hk hq hy
   have hjk : j / k * k + j % k = j := by rw [Nat.mul_comm]; exact Nat.div_add_mod j k
   rw [hjk,hj] at h1
   obtain rfl := Option.some.inj h1
   have h2 := hc _ hq _ _ hy
   rw [Nat.add_assoc,hjk] at h2
   exact h2) (by
   intro u hu
   obtain ⟨x,_,hx⟩ := List.mem_flatMap.1 hu
   exact hplain x u hx) hn hb hbase
 refine ⟨v',w',hrun,?_,hg,hat⟩
 unfold SOwn
 rw [List.length_append,List.flatMap_append]
 exact ho
abbrev tOpss : TypeId := 22
theorem info_ops : (Tryz.prog.info? tOps).map (fun i => (i.zero,i.size,i.bytes)) = some (some (.slice none 0 0),1,24) := by kernel_rfl
abbrev TOwn (w : World) (base : Nat) (v : Value) (l : List OpL) : Prop := SOwn tOps 1 OpL.cs w base v l
theorem bs_tr0 (w : World) : (Instr.buildSlice tOpss 0 #[]).run Tryz.prog w = .ok (.slice (some ⟨w.heap.size,0,none⟩) 0 0) (w.alloc (.cells #[] tOps)) := by kernel_rfl
theorem bs_tr2 (p q : OpL) (w : World) : (Instr.buildSlice tOpss 2 #[(0,.slice p.A p.l.length p.c),(1,.slice q.A q.l.length q.c)]).run Tryz.prog w = .ok (.slice (some ⟨w.heap.size,0,none⟩) 2 2) (w.alloc (.cells ([p,q].flatMap OpL.cs).toArray tOps)) := by kernel_rfl
theorem bs_op0 (w : World) : (Instr.buildSlice tOps 0 #[]).run Tryz.prog w = .ok (.slice (some ⟨w.heap.size,0,none⟩) 0 0) (w.alloc (.cells #[] 77)) := by kernel_rfl
def lawZ (M : Int) (E : Bset) : ZZ := ⟨8,⟨8,M⟩,E⟩
theorem thin_ok {w : World} {q : OpL} (h : OpsR w q.A q.l) (ht : thin q) : ∀ o ∈ q.l,OpOk o.o := fun o ho => (h.px o ho).2.ok (ht o ho)
end Go.Proofs.YtehmblcbccceaaaGreat
