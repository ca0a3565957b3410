import Derived.Test.YtehmblcbccceaaaGreatLScW
namespace Go.Proofs.YtehmblcbccceaaaGreat
open Go.RowKit pxm imm trm Go.Maps
abbrev tSize : TypeId := 111
theorem wpl_build {P : Program} {ops : Array Oper} {rest : List Oper} {o : Oper} {a : Act} {Q : Exit → Act → World → Prop} {w w' : World} (t : TypeId) (parts : Array (Nat × Operand)) (ho : o.op = .build t parts) (hgd : Region.wanted o (yielded ops a.tmps) = true) {vals : Array (Nat × Value)} (hv : (parts.map fun q => (q.1,a.eval q.2)) = vals) {v : Value} (hrun : (Instr.build t vals).run P w = .ok v w')
    (h : wpList P ops Q rest (a.put o.dst v) w') : wpList P ops Q (o :: rest) a w := by
  subst hv
  unfold wpList
  rw [if_pos hgd]
  refine .inl ?_
  unfold Oper.wp execOp
  simp only [ho,Sem.run_bind,Result.andThen_ok,hrun]
  exact h
def sccs (b m : Nat) (Z : ZZ) : List Value := [.iface 109 (.pointer (some ⟨b,0,none⟩)),.pointer (some ⟨b,0,none⟩),.int .i64 Z.1,.int .i64 Z.2.1,.int .i64 Z.2.2,.map (some m)]
theorem build_scene (b m : Nat) (W H M : Int) (w : World) : (Instr.build tScene #[(0,.iface 109 (.pointer (some ⟨b,0,none⟩))),(1,.pointer (some ⟨b,0,none⟩)),(2,.agg #[.int .i64 W,.int .i64 H,.int .i64 M]),(3,.map (some m))]).run Tryz.prog w =
    .ok (.agg #[.iface 109 (.pointer (some ⟨b,0,none⟩)),.pointer (some ⟨b,0,none⟩),.int .i64 W,.int .i64 H,.int .i64 M,.map (some m)]) w := by kernel_rfl
def OfQ (b m : Nat) (Z : ZZ) (w : World) (e : Ending) (w' : World) : Prop := ∃ g,e = .returned (.pointer (some ⟨g,0,none⟩)) ∧ w.heap.size ≤ g ∧ BlkT w' g (sccs b m Z) tScene ∧ Below w.heap.size w w'
set_option maxHeartbeats 2000000 in
set_option maxRecDepth 100000 in
theorem of_any (Z : ZZ) (b m : Nat) (w : World) :
    Calls Tryz.prog 43 #[.agg #[.int .i64 Z.1,.int .i64 Z.2.1,.int .i64 Z.2.2],.pointer (some ⟨b,0,none⟩),.map (some m)] w (OfQ b m Z w) := by
  go_enter Tryz.func43,Tryz.ntmps43
  go_wp2_with ((with_reducible show wpList _ _ _ (Oper.mk _ (Op.build _ _) _ _ _ _ :: _) _ _); refine wpl_build _ _ rfl rfl (by simp [go_sem]) (build_scene b m Z.1 Z.2.1 Z.2.2 _) ?_)
  go_ret
  exact ⟨_,rfl,by omega,by simpa [sccs] using BlkT.new (w.alloc _) (sccs b m Z) tScene,((Below.refl _ _).alloc (Nat.le_refl _) _).alloc (by simp) _⟩
def plain0 : LV := [(0,plv Nd.plain none 0 Mp.one)]
structure NewJ (base : Nat) (Z : ZZ) (i4 i5 i10 i11 i12 i13 : Bool) (v29 v30 v35 v36 v6 : Value) (w : World) : Prop where
  bsz : base ≤ w.heap.size
  tree : i4 = true → ∃ b s,v29 = .pointer (some ⟨b,0,none⟩) ∧ TreeAt w b s [] ∧ (∀ k,FootT b s [] k → base ≤ k) ∧ (i5 = true → ∀ m,v30 = .map (some m) → ¬ FootT b s [] m)
  map : i5 = true → ∃ m,v30 = .map (some m) ∧ VM w m (bif i10 then plain0 else []) ∧ base ≤ m
  mv : i11 = true → v35 = v30
  scn : i12 = true → ∃ g b s m,v36 = .pointer (some ⟨g,0,none⟩) ∧ base ≤ g ∧ BlkT w g (sccs b m Z) tScene ∧ TreeAt w b s [] ∧ VM w m plain0 ∧ (∀ k,SFoot b m s [] k → base ≤ k) ∧ ¬ FootT b s [] m ∧ ¬ SFoot b m s [] g
  out : i13 = true → v6 = v36
  o10 : i10 = true → i5 = true
  o11 : i11 = true → i10 = true
  o12 : i12 = true → i4 = true ∧ i11 = true
  o13 : i13 = true → i12 = true
section
variable {base : Nat} {Z : ZZ} {i4 i5 i10 i11 i12 i13 : Bool} {v29 v30 v35 v36 v6 : Value} {w w' : World}
theorem NewJ.slots {u29 u30 u35 u36 u6 : Value} (h : NewJ base Z i4 i5 i10 i11 i12 i13 v29 v30 v35 v36 v6 w) (e1 : u29 = v29) (e2 : u30 = v30) (e3 : u35 = v35) (e4 : u36 = v36) (e5 : u6 = v6) : NewJ base Z i4 i5 i10 i11 i12 i13 u29 u30 u35 u36 u6 w := by
  rw [e1,e2,e3,e4,e5]; exact h
theorem NewJ.below (h : NewJ base Z i4 i5 i10 i11 i12 i13 v29 v30 v35 v36 v6 w) (hb : Below w.heap.size w w') : NewJ base Z i4 i5 i10 i11 i12 i13 v29 v30 v35 v36 v6 w' where
  bsz := Nat.le_trans h.bsz hb.size
  tree e := by
    obtain ⟨b,s,h1,h2,h3⟩ := h.tree e
    exact ⟨b,s,h1,h2.below hb,h3⟩
  map e := by
    obtain ⟨m,h1,h2,h3⟩ := h.map e
    exact ⟨m,h1,h2.below hb,h3⟩
  mv := h.mv
  scn e := by
    obtain ⟨g,b,s,m,h1,h2,h3,h4,h5,h6⟩ := h.scn e
    exact ⟨g,b,s,m,h1,h2,h3.stays (hb.block _ h3.inside),h4.below hb,h5.below hb,h6⟩
  out := h.out
  o10 := h.o10
  o11 := h.o11
  o12 := h.o12
  o13 := h.o13
theorem not_of {i j : Bool} (h : i = true → j = true) (e : j = false) : i = false := by cases i with | false => rfl | true => rw [h rfl] at e; cases e
theorem NewJ.start (hb : base ≤ w.heap.size) : NewJ base Z false false false false false false v29 v30 v35 v36 v6 w :=
  ⟨hb,(fun e => nomatch e),(fun e => nomatch e),(fun e => nomatch e),(fun e => nomatch e),(fun e => nomatch e),(fun e => nomatch e),(fun e => nomatch e),(fun e => nomatch e),(fun e => nomatch e)⟩
theorem NewJ.grow (h : NewJ base Z i4 i5 i10 i11 i12 i13 v29 v30 v35 v36 v6 w) (h4 : i4 = false) {b : Nat} {s : Sh} {u29 : Value} (hb : Below w.heap.size w w') (h1 : TreeAt w' b s []) (h2 : ∀ k,FootT b s [] k → w.heap.size ≤ k) (e29 : u29 = .pointer (some ⟨b,0,none⟩)) : NewJ base Z true i5 i10 i11 i12 i13 u29 v30 v35 v36 v6 w' :=
  have h12 := not_of (fun e => (h.o12 e).1) h4
  have h13 := not_of h.o13 h12
  have h' := h.below hb
  ⟨h'.bsz,fun _ => ⟨b,s,e29,h1,fun k hk => Nat.le_trans h.bsz (h2 k hk),fun e m em hm => by
    obtain ⟨m',e1,e2,-⟩ := h.map e
    rw [em] at e1
    injection e1 with e1
    injection e1 with e1
    have := h2 m hm
    have := e2.inside
    omega⟩,h'.map,h'.mv,(fun e => by rw [h12] at e; cases e),(fun e => by rw [h13] at e; cases e),h'.o10,h'.o11,(fun e => ⟨rfl,(h'.o12 e).2⟩),h'.o13⟩
theorem NewJ.make {u30 : Value} (h : NewJ base Z i4 i5 i10 i11 i12 i13 v29 v30 v35 v36 v6 w) (h5 : i5 = false) (e30 : u30 = .map (some w.heap.size)) : NewJ base Z i4 true i10 i11 i12 i13 v29 u30 v35 v36 v6 (w.alloc (.map #[] 0)) := by
  have h10 := not_of h.o10 h5
  have h11 := not_of h.o11 h10
  subst e30 h5 h10 h11
  have hb : Below w.heap.size w (w.alloc (.map #[] 0)) := (Below.refl _ _).alloc (Nat.le_refl _) _
  have h' := h.below hb
  refine ⟨h'.bsz,fun e => ?_,fun _ => ⟨_,rfl,VM.made w,h.bsz⟩,fun e => (nomatch e),h'.scn,h'.out,(fun e => (nomatch e)),(fun e => (nomatch e)),h'.o12,h'.o13⟩
  obtain ⟨b0,s0,h10,h20,h30,-⟩ := h.tree e
  refine ⟨b0,s0,h10,h20.below hb,h30,fun _ m em hm => ?_⟩
  injection em with em
  injection em with em
  have := h20.raw.inside m hm
  omega
theorem NewJ.put (h : NewJ base Z i4 i5 i10 i11 i12 i13 v29 v30 v35 v36 v6 w) (h5 : i5 = true) (h10 : i10 = false) : ∃ m w',v30 = .map (some m) ∧ (Instr.mapUpdate tPlaces (.map (some m)) (.int .i64 0) (plv Nd.plain none 0 Mp.one)).run Tryz.prog w = .ok () w' ∧ Below base w w' ∧ NewJ base Z i4 i5 true i11 i12 i13 v29 v30 v35 v36 v6 w' := by
  subst h5
  have h11 := not_of h.o11 h10
  have h12 := not_of (fun e => (h.o12 e).2) h11
  subst h10
  obtain ⟨m,h1,h2,h3⟩ := h.map rfl
  obtain ⟨w',hrun,hm',hg⟩ := h2.store und_places (i := 0) (by constructor <;> decide) (plv Nd.plain none 0 Mp.one) (by show [_].length ≤ _; simp)
  have hne : ∀ k,k < w.heap.size → k ≠ m → w'.heap[k]? = w.heap[k]? := fun k hk hn => hg.block k hk fun e => hn (Option.some.inj e)
  refine ⟨m,w',h1,hrun,(Below.refl _ _).grown hg h.bsz fun k e => by rw [← Option.some.inj e]; exact h3,⟨Nat.le_trans h.bsz hg.size,fun e => ?_,fun _ => ⟨m,h1,hm',h3⟩,h.mv,fun e => ?_,h.out,fun _ => rfl,fun _ => rfl,h.o12,h.o13⟩⟩
  · obtain ⟨b,s,e1,e2,e3,e4⟩ := h.tree e
    exact ⟨b,s,e1,e2.stays fun k hk => hne k (e2.raw.inside k hk) fun e5 => e4 rfl m h1 (e5 ▸ hk),e3,e4⟩
  · rw [h12] at e; cases e
theorem NewJ.last (h : NewJ base Z i4 i5 i10 i11 i12 i13 v29 v30 v35 v36 v6 w) (h4 : i4 = true) (h11 : i11 = true) (h12 : i12 = false) : ∃ b m,v29 = .pointer (some ⟨b,0,none⟩) ∧ v35 = .map (some m) ∧ ∀ e w',OfQ b m Z w e w' → ∃ u,e = .returned u ∧ Below w.heap.size w w' ∧ NewJ base Z i4 i5 i10 i11 true i13 v29 v30 v35 u v6 w' := by
  have h13 := not_of h.o13 h12
  have h10 := h.o11 h11
  have h5 := h.o10 h10
  subst h4 h5 h10 h11 h12
  obtain ⟨b,s,e1,e2,e3,e4⟩ := h.tree rfl
  obtain ⟨m,f1,f2,f3⟩ := h.map rfl
  refine ⟨b,m,e1,(h.mv rfl).trans f1,?_⟩
  rintro e w' ⟨g,rfl,g1,g2,g3⟩
  have h' := h.below g3
  have hnf := e4 rfl m f1
  refine ⟨_,rfl,g3,⟨h'.bsz,h'.tree,h'.map,h'.mv,fun _ => ⟨g,b,s,m,rfl,Nat.le_trans h.bsz g1,g2,e2.below g3,f2.below g3,fun k hk => ?_,hnf,fun hk => ?_⟩,(fun e => by rw [h13] at e; cases e),h'.o10,h'.o11,(fun _ => ⟨rfl,rfl⟩),(fun _ => rfl)⟩⟩
  · rcases hk with e | e
    · rw [e]; exact f3
    · exact e3 k e
  · rcases hk with e | e
    · have := f2.inside; omega
    · have := e2.raw.inside g e; omega
theorem NewJ.copy {u35 : Value} (h : NewJ base Z i4 i5 i10 i11 i12 i13 v29 v30 v35 v36 v6 w) (h10 : i10 = true) (e35 : u35 = v30) : NewJ base Z i4 i5 i10 true i12 i13 v29 v30 u35 v36 v6 w := ⟨h.bsz,h.tree,h.map,fun _ => e35,h.scn,h.out,h.o10,fun _ => h10,fun e => ⟨(h.o12 e).1,rfl⟩,h.o13⟩
theorem NewJ.tell {u6 : Value} (h : NewJ base Z i4 i5 i10 i11 i12 i13 v29 v30 v35 v36 v6 w) (h12 : i12 = true) (e6 : u6 = v36) : NewJ base Z i4 i5 i10 i11 i12 true v29 v30 v35 v36 u6 w := ⟨h.bsz,h.tree,h.map,h.mv,h.scn,fun _ => e6,h.o10,h.o11,h.o12,fun _ => h12⟩
theorem NewJ.scene (h : NewJ base Z i4 i5 i10 i11 true true v29 v30 v35 v36 v6 w) (hE : ∀ k,Z.3 k → k < base) : ∃ g b m s,v6 = .pointer (some ⟨g,0,none⟩) ∧ SceneAt w g b m s Z ⟨[],fun _ => Nd.plain,fun _ => Mp.one⟩ ∧ (∀ k,SFoot b m s [] k → base ≤ k) ∧ base ≤ g := by
  obtain ⟨g,b,s,m,h1,h2,h3,h4,h5,h6,h7,h8⟩ := h.scn rfl
  refine ⟨g,b,m,s,(h.out rfl).trans h1,⟨h3,h4,⟨plain0,h5,fun i hi => ?_,fun i hi => ?_⟩,h8,h7,fun k hk => ⟨?_,fun e => ?_,fun e => ?_⟩⟩,h6,h2⟩
  · by_cases e : i = 0
    · rw [e]; rfl
    · exact absurd (by simp [plain0,omap.look,Ne.symm e]) hi
  · have e : i = 0 := by
      rcases has_iff.1 hi with e | e
      · exact e
      · cases e
    subst e
    exact ⟨_,rfl,none,0,rfl,row_none rfl _,(fun a e => nomatch e),(fun a e => nomatch e)⟩
  · have := hE k hk; have := h.bsz; omega
  · have := h6 k e; have := hE k hk; omega
  · have := hE k hk; omega
end
end Go.Proofs.YtehmblcbccceaaaGreat
