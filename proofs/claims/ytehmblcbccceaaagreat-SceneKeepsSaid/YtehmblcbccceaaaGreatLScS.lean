import Derived.Test.YtehmblcbccceaaaGreatLScR
namespace Go.Proofs.YtehmblcbccceaaaGreat
open Go.RowKit pxm imm trm Go.Maps
abbrev tFunc : TypeId := 1
def fcs (q : Nat × Array Value) : List Value := [.func (.func q.1) #[] q.2]
theorem fcs_len (q : Nat × Array Value) : (fcs q).length = 1 := rfl
theorem fcs_plain (q : Nat × Array Value) : ∀ u ∈ fcs q,u.oneCell' = true := by
  intro u hu
  rw [List.mem_singleton.1 hu]
  rfl
theorem info_func : (Tryz.prog.info? tFunc).map (fun i => (i.zero,i.size,i.bytes)) = some (some .nilFunc,1,8) := by kernel_rfl
abbrev FnOwn (w : World) (base : Nat) (v : Value) (l : List (Nat × Array Value)) : Prop := SOwn tFunc 1 fcs w base v l
def Chn (g b m : Nat) (Z : ZZ) (w : World) (S : Bset) : List (Nat × Array Value) → PSc → PSc → Prop
  | [],x',x => x' = x
  | q :: r,x',x => ∃ y,UndoV g b m Z (.func (.func q.1) #[] q.2) w S x' y ∧ Chn g b m Z w S r y x
theorem Chn.turn {g b m : Nat} {Z : ZZ} {w w' : World} {S S' : Bset} (ht : TurnP S S' w w') : ∀ {l : List (Nat × Array Value)} {x' x : PSc},Chn g b m Z w S l x' x → Chn g b m Z w' S' l x' x
  | [],_,_,h => h
  | _ :: _,_,_,⟨y,h1,h2⟩ => ⟨y,h1.turn ht,Chn.turn ht h2⟩
structure OpR where
  o : Op9
  A : Option Addr
  c : Nat
def OpR.cs (q : OpR) : List Value := q.o.cs q.A q.c
theorem OpR.cs_len (q : OpR) : q.cs.length = 23 := rfl
structure OpsAt (S : Bset) (w : World) (A : Option Addr) (l : List OpR) : Prop where
  row : SRow 23 OpR.cs w A l
  off : ∀ a,A = some a → l ≠ [] → ¬ S a.block
  px : ∀ q ∈ l,Row eW w q.A q.o.lk.l ∧ ∀ a,q.A = some a → q.o.lk.l ≠ [] → ¬ S a.block
theorem SRow.blt {α : Type} {k : Nat} {enc : α → List Value} {w : World} {A : Option Addr} {l : List α} (h : SRow k enc w A l) (he : ∀ q,∃ v r,enc q = v :: r) {a : Addr} (e : A = some a) (hne : l ≠ []) : a.block < w.heap.size := by
  have hn : 0 < l.length := List.length_pos_iff.2 hne
  obtain ⟨b,off,e2,hc⟩ := h hn
  rw [e] at e2
  obtain rfl := Option.some.inj e2
  obtain ⟨v,r,hv⟩ := he l[0]
  exact World.block_lt_of_cell? w ⟨b,off + 0 * k + 0,none⟩ (hc 0 hn 0 v (by rw [hv]; rfl))
theorem OpsAt.turn {S S' : Bset} {w w' : World} {A : Option Addr} {l : List OpR} (h : OpsAt S w A l) (ht : TurnP S S' w w') : OpsAt S' w' A l :=
  ⟨h.row.off h.off ht,fun a e hne => (ht.far _ (h.row.blt (fun _ => ⟨_,_,rfl⟩) e hne) (h.off a e hne)).1,fun q hq =>
    ⟨Row.stays (h.px q hq).1 fun a e hne => (ht.far _ (Row.lt (h.px q hq).1 e hne) ((h.px q hq).2 a e hne)).2,fun a e hne => (ht.far _ (Row.lt (h.px q hq).1 e hne) ((h.px q hq).2 a e hne)).1⟩⟩
def allS (most : Int) (x : PSc) : List Op9 → PSc × Nat × Int
  | [] => (x,0,0)
  | o :: l => if (doS most x o).2 ≠ 0 then (x,0,(doS most x o).2) else ((allS most (doS most x o).1 l).1,(allS most (doS most x o).1 l).2.1 + 1,(allS most (doS most x o).1 l).2.2)
theorem allS_cons (M : Int) (x : PSc) (o : Op9) (l : List Op9) : allS M x (o :: l) = if (doS M x o).2 ≠ 0 then (x,0,(doS M x o).2) else ((allS M (doS M x o).1 l).1,(allS M (doS M x o).1 l).2.1 + 1,(allS M (doS M x o).1 l).2.2) := rfl
theorem setS_not {x : PSc} {o : Op9} (h : (setS x o).2 ≠ 0) : (setS x o).1 = x := by
  unfold setS at h ⊢
  by_cases h1 : has x.t o.i = false
  · rw [if_pos h1]
  rw [if_neg h1] at h ⊢
  by_cases h2 : (setN Nd.plain o).chk ≠ 0
  · rw [if_pos h2]
  · rw [if_neg h2] at h; exact absurd rfl h
theorem createS_not {M : Int} {x : PSc} {i p n : Int} (h : (createS M x i p n).2 ≠ 0) : (createS M x i p n).1 = x := by
  unfold createS at h ⊢
  by_cases h1 : (addS x.t i p n).2 ≠ 0
  · rw [if_pos h1]
  rw [if_neg h1] at h ⊢
  by_cases h2 : M < ((x.t.length + 2 : Nat) : Int)
  · rw [if_pos h2]
  · rw [if_neg h2] at h; exact absurd rfl h
theorem doS_not {M : Int} {x : PSc} {o : Op9} (h : (doS M x o).2 ≠ 0) : (doS M x o).1 = x := by
  unfold doS at h ⊢
  by_cases h1 : o.k = 1
  · rw [if_pos h1] at h ⊢; exact createS_not h
  rw [if_neg h1] at h ⊢
  by_cases h2 : o.k = 2
  · rw [if_pos h2] at h ⊢
    unfold removeS at h ⊢
    by_cases h3 : (remS x.t o.i).2.2 ≠ 0
    · rw [if_pos h3]
    · rw [if_neg h3] at h; exact absurd rfl h
  rw [if_neg h2] at h ⊢
  by_cases h3 : o.k = 3
  · rw [if_pos h3] at h ⊢
    unfold moveS at h ⊢
    by_cases h4 : (movS x.t o.i o.p o.n).2 ≠ 0
    · rw [if_pos h4]
    · rw [if_neg h4] at h; exact absurd rfl h
  rw [if_neg h3] at h ⊢
  by_cases h4 : 4 ≤ o.k ∧ o.k ≤ 8
  · rw [if_pos h4] at h ⊢; exact setS_not h
  · rw [if_neg h4]
theorem doS_len {M : Int} {x : PSc} (ok : Ok x.t) (o : Op9) : (doS M x o).1.t.length ≤ x.t.length + 1 := by
  by_cases h : (doS M x o).2 ≠ 0
  · rw [doS_not h]; omega
  unfold doS
  by_cases h1 : o.k = 1
  · rw [if_pos h1]
    unfold createS
    have := (addS_ok ok o.i o.p o.n).2
    split
    · simp
    · split
      · simp
      · exact this
  rw [if_neg h1]
  by_cases h2 : o.k = 2
  · rw [if_pos h2]
    unfold removeS
    have := (remS_ok ok o.i).2
    split
    · simp
    · exact Nat.le_succ_of_le this
  rw [if_neg h2]
  by_cases h3 : o.k = 3
  · rw [if_pos h3]
    unfold moveS
    have := (movS_ok ok o.i o.p o.n).2
    split
    · simp
    · exact Nat.le_succ_of_le (Nat.le_of_eq this)
  rw [if_neg h3]
  by_cases h4 : 4 ≤ o.k ∧ o.k ≤ 8
  · rw [if_pos h4]
    unfold setS
    split
    · simp
    · split <;> simp
  · rw [if_neg h4]; simp
theorem doS_okk {M : Int} {x : PSc} (ok : Ok x.t) (o : Op9) : Ok (doS M x o).1.t := by
  unfold doS
  split
  · unfold createS
    split
    · exact ok
    · split
      · exact ok
      · exact (addS_ok ok _ _ _).1
  split
  · unfold removeS
    split
    · exact ok
    · exact (remS_ok ok _).1
  split
  · unfold moveS
    split
    · exact ok
    · exact (movS_ok ok _ _ _).1
  split
  · unfold setS
    split
    · exact ok
    · split <;> exact ok
  · exact ok
theorem doS_most {M : Int} {x : PSc} (ok : Ok x.t) (o : Op9) : (doS M x o).1.t.length ≤ x.t.length ∨ ((doS M x o).1.t.length + 1 : Nat) ≤ M := by
  have h9 := doS_len (M := M) ok o
  by_cases h : (doS M x o).2 ≠ 0
  · rw [doS_not h]; exact .inl (Nat.le_refl _)
  by_cases h1 : o.k = 1
  · have e : doS M x o = createS M x o.i o.p o.n := by unfold doS; rw [if_pos h1]
    rw [e] at h9 h ⊢
    unfold createS at h9 h ⊢
    by_cases e1 : (addS x.t o.i o.p o.n).2 ≠ 0
    · rw [if_pos e1]; exact .inl (Nat.le_refl _)
    rw [if_neg e1] at h9 h ⊢
    by_cases e2 : M < ((x.t.length + 2 : Nat) : Int)
    · rw [if_pos e2]; exact .inl (Nat.le_refl _)
    rw [if_neg e2] at h9 ⊢
    right
    simp only at h9 ⊢
    omega
  left
  unfold doS
  rw [if_neg h1]
  by_cases h2 : o.k = 2
  · rw [if_pos h2]
    unfold removeS
    have := (remS_ok ok o.i).2
    split
    · exact Nat.le_refl _
    · exact this
  rw [if_neg h2]
  by_cases h3 : o.k = 3
  · rw [if_pos h3]
    unfold moveS
    have := (movS_ok ok o.i o.p o.n).2
    split
    · exact Nat.le_refl _
    · exact Nat.le_of_eq this
  rw [if_neg h3]
  by_cases h4 : 4 ≤ o.k ∧ o.k ≤ 8
  · rw [if_pos h4]
    unfold setS
    split
    · exact Nat.le_refl _
    · split <;> exact Nat.le_refl _
  · rw [if_neg h4]; exact Nat.le_refl _
def Room (M : Int) (x : PSc) (n : Nat) : Prop := n ≤ 1024 ∧ (x.t.length + n ≤ 900 ∨ (x.t.length ≤ 900 ∧ M ≤ 900))
theorem allS_room {M : Int} : ∀ (l : List Op9) {x : PSc},Ok x.t → (allS M x l).1.t.length ≤ x.t.length ∨ (((allS M x l).1.t.length + 1 : Nat) : Int) ≤ M
  | [],_,_ => .inl (Nat.le_refl _)
  | o :: l,x,ok => by
    rw [allS_cons]
    split
    · exact .inl (Nat.le_refl _)
    · have ok2 : Ok (doS M x o).1.t := doS_okk ok o
      rcases allS_room l ok2 with h | h
      · rcases doS_most (M := M) ok o with h2 | h2
        · exact .inl (Nat.le_trans h h2)
        · right; simp only at h ⊢; omega
      · exact .inr h
theorem upd_all {α : Type} {P : α → Prop} {f : Int → α} {i : Int} {y : α} (h : ∀ j,P (f j)) (hy : P y) : ∀ j,P (upd f i y j) := fun j => by
  unfold upd
  split
  · exact hy
  · exact h j
theorem doS_fit {M : Int} {x : PSc} {o : Op9} (h : ∀ i,Fit (x.nd i)) (ho : OpOk o) : ∀ i,Fit ((doS M x o).1.nd i) := by
  by_cases hz : (doS M x o).2 ≠ 0
  · rw [doS_not hz]; exact h
  unfold doS
  by_cases h1 : o.k = 1
  · rw [if_pos h1]
    unfold createS
    split
    · exact h
    · split
      · exact h
      · exact upd_all h fit_plain
  rw [if_neg h1]
  by_cases h2 : o.k = 2
  · rw [if_pos h2]
    unfold removeS
    split <;> exact h
  rw [if_neg h2]
  by_cases h3 : o.k = 3
  · rw [if_pos h3]
    unfold moveS
    split <;> exact h
  rw [if_neg h3]
  by_cases h4 : 4 ≤ o.k ∧ o.k ≤ 8
  · rw [if_pos h4]
    unfold setS
    split
    · exact h
    · split
      · exact h
      · exact upd_all h (pick_fit ⟨ho.fit.p,ho.fit.l,ho.fit.len⟩ (h _))
  · rw [if_neg h4]; exact h
def EO (Z : ZZ) (v : Value) : Bset := fun k => Z.3 k ∨ v.ownBlock = some k
theorem TurnP.own {S S' : Bset} {w w4 w5 : World} {v : Value} (h : TurnP S S' w w4) (h5 : TurnP (Ow v) (Ow v) w4 w5) (ho : ∀ k,v.ownBlock = some k → w.heap.size ≤ k) : TurnP S S' w w5 :=
  ⟨h5.os.trans h.os,h5.tape.trans h.tape,h5.output.trans h.output,Nat.le_trans h.size h5.size,fun k hk hn => by
    have h1 := h.far k hk hn
    exact ⟨h1.1,(h5.far k (Nat.lt_of_lt_of_le hk h.size) fun e => by have := ho k e; omega).2.trans h1.2⟩⟩
theorem NdOff.part {E E' S : Bset} {w w' : World} {n : Nd} {A : Option Addr} (h : NdOff E S w n A) (hsame : ∀ k,k < w.heap.size → ¬ E k → w'.heap[k]? = w.heap[k]?) (hE : ∀ k,E' k → E k ∨ w.heap.size ≤ k) : NdOff E' S w' n A :=
  ⟨Row.stays h.1 fun a e hne => hsame _ (Row.lt h.1 e hne) (h.3 a e hne),h.2,fun a e hne k => (hE _ k).elim (h.3 a e hne) fun h2 => by have := Row.lt h.1 e hne; omega⟩
theorem SceneAt.part {w w' : World} {g b m : Nat} {s : Sh} {Z : ZZ} {x : PSc} {E' : Bset} (h : SceneAt w g b m s Z x) (hsame : ∀ k,k < w.heap.size → ¬ Z.3 k → w'.heap[k]? = w.heap[k]?) (hE : ∀ k,E' k → k < w'.heap.size ∧ (Z.3 k ∨ w.heap.size ≤ k)) : SceneAt w' g b m s ⟨Z.1,Z.2,E'⟩ x := by
  obtain ⟨es,hm,h1,h2⟩ := h.map
  have hin : ∀ k,SFoot b m s x.t k → w'.heap[k]? = w.heap[k]? := fun k hk => hsame k (h.inside k hk) fun e => (h.old k e).2.1 hk
  refine ⟨h.blk.stays (hsame g h.blk.inside fun e => (h.old g e).2.2 rfl),h.tree.stays fun k hk => hin k (.inr hk),⟨es,hm.stays (hin m (.inl rfl)),h1,fun i hi => ?_⟩,h.gfar,h.mfar,fun k hk => ⟨(hE k hk).1,?_⟩⟩
  · obtain ⟨v,e,A,c,e2,hv⟩ := h2 i hi
    exact ⟨v,e,A,c,e2,hv.part hsame fun k hk => (hE k hk).2⟩
  · rcases (hE k hk).2 with e | e
    · exact (h.old k e).2
    · exact ⟨fun e2 => by have := h.inside k e2; omega,fun e2 => by have := h.blk.inside; omega⟩
theorem UndoV.part {g b m : Nat} {Z : ZZ} {v : Value} {w w' : World} {s : Sh} {t : T} {E E' : Bset} {x' x : PSc} (h : UndoV g b m Z v w (Sor b m s t E) x' x) (hsz : w.heap.size ≤ w'.heap.size) (hsame : ∀ k,k < w.heap.size → ¬ E k → w'.heap[k]? = w.heap[k]?) (hE : ∀ k,E' k → E k ∨ w.heap.size ≤ k) : UndoV g b m Z v w' (Sor b m s t E') x' x := by
  obtain ⟨K,f,cs,e,he,hk,hc⟩ := h
  refine ⟨K,f,cs,e,he,fun k hK => ⟨Nat.lt_of_lt_of_le (hk k hK).1 hsz,fun h2 => ?_⟩,fun W s1 E1 hW hs => hc W s1 E1 (fun k hK => ⟨(hW k hK).1.trans (hsame k (hk k hK).1 fun h2 => (hk k hK).2 (.inr h2)),(hW k hK).2⟩) hs⟩
  rcases h2 with h2 | h2
  · exact (hk k hK).2 (.inl h2)
  · rcases hE k h2 with h3 | h3
    · exact (hk k hK).2 (.inr h3)
    · have := (hk k hK).1; omega
theorem Chn.part {g b m : Nat} {Z : ZZ} {w w' : World} {s : Sh} {t : T} {E E' : Bset} (hsz : w.heap.size ≤ w'.heap.size) (hsame : ∀ k,k < w.heap.size → ¬ E k → w'.heap[k]? = w.heap[k]?) (hE : ∀ k,E' k → E k ∨ w.heap.size ≤ k) : ∀ {l : List (Nat × Array Value)} {x' x : PSc},Chn g b m Z w (Sor b m s t E) l x' x → Chn g b m Z w' (Sor b m s t E') l x' x
  | [],_,_,h => h
  | _ :: _,_,_,⟨y,h1,h2⟩ => ⟨y,h1.part hsz hsame hE,Chn.part hsz hsame hE h2⟩
theorem TurnP.sor {b m : Nat} {s s' : Sh} {t t' : T} {w w' : World} (h : TurnP (SFoot b m s t) (SFoot b m s' t') w w') (E : Bset) : TurnP (Sor b m s t E) (Sor b m s' t' E) w w' :=
  ⟨h.os,h.tape,h.output,h.size,fun k hk hn => ⟨fun e => e.elim (h.far k hk fun e => hn (.inl e)).1 fun e => hn (.inr e),(h.far k hk fun e => hn (.inl e)).2⟩⟩
def AllQ (g b m : Nat) (Z : ZZ) (s : Sh) (x : PSc) (r : PSc × Nat × Int) (w : World) (e : Ending) (w' : World) : Prop :=
  ∃ (U : Option Addr) (uc : Nat) (vs : List (Nat × Array Value)) (s' : Sh),e = .returned (.tuple #[.slice U vs.length uc,.int .i64 r.2.2]) ∧ vs.length = r.2.1 ∧ FnOwn w' w.heap.size (.slice U vs.length uc) vs ∧
    SceneAt w' g b m s' ⟨Z.1,Z.2,EO Z (.slice U vs.length uc)⟩ r.1 ∧ TurnP (SFoot b m s x.t) (SFoot b m s' r.1.t) w w' ∧ Chn g b m Z w' (Sor b m s' r.1.t (EO Z (.slice U vs.length uc))) vs.reverse r.1 x
theorem bs_func (q : Nat × Array Value) (w : World) : (Instr.buildSlice 152 1 #[(0,.func (.func q.1) #[] q.2)]).run Tryz.prog w = .ok (.slice (some ⟨w.heap.size,0,none⟩) 1 1) (w.alloc (.cells (fcs q).toArray tFunc)) := by kernel_rfl
theorem app_fn {n0 : Nat} {w : World} {v : Value} {l : List (Nat × Array Value)} (h : FnOwn w n0 v l) (hb : n0 ≤ w.heap.size) (q : Nat × Array Value) {c : Nat} (hn : l.length ≤ 900000000) :
    ∃ v' w',(Builtin.append_ #[152,152] 152 #[v,.slice (some ⟨w.heap.size,0,none⟩) 1 c]).run Tryz.prog (w.alloc (.cells (fcs q).toArray tFunc)) = .ok v' w' ∧ FnOwn w' n0 v' (l ++ [q]) ∧
      (w.alloc (.cells (fcs q).toArray tFunc)).grownBy w' v.ownBlock ∧ (v'.ownBlock = v.ownBlock ∨ v'.ownBlock = some (w.heap.size + 1)) := by
  obtain ⟨v',w',h1,h2,h3,h4⟩ := SOwn.app (P := Tryz.prog) (xs := [q]) (c := c) (g := w.heap.size) (o := 0) Tryz.underlying152 info_func rfl (by decide) (by decide) fcs_len fcs_plain
    (h.below ((Below.refl _ _).alloc (Nat.le_refl _) (.cells (fcs q).toArray tFunc))) (fun _ => srow_new (enc := fcs) fcs_len w [q] _ (by simp)) (by simp; omega) (by simp; omega)
  refine ⟨v',w',h1,h2,h3,?_⟩
  simpa using h4
section
variable {w : World} {g b m : Nat} {s : Sh} {Z : ZZ} {x : PSc}
set_option maxHeartbeats 4000000 in
set_option maxRecDepth 100000 in
theorem all_any (h : SceneAt w g b m s Z x) (l : List OpR) (A : Option Addr) (c : Nat) (ho : OpsAt (SFoot b m s x.t) w A l) (hok : ∀ q ∈ l,OpOk q.o) (hfx : ∀ i,Fit (x.nd i)) (hn : Room Z.2.2 x l.length) :
    Calls Tryz.prog 61 #[.pointer (some ⟨g,0,none⟩),.slice A l.length c] w (AllQ g b m Z s x (allS Z.2.2 x (l.map (·.o))) w) := by
  have HS := Lib.hid h
  have HO := Lib.hid ho
  have HOK := Lib.hid hok
  have HFX := Lib.hid hfx
  have HN := Lib.hid hn
  obtain ⟨R,hR⟩ : ∃ R,allS Z.2.2 x (l.map (·.o)) = R := ⟨_,rfl⟩
  have HE := Lib.hid hR
  rw [hR]
  have hlb : (l.length : Int) ≤ 1024 := by have := hn.1; omega
  clear hR h ho hok hfx hn
  go_enter Tryz.func61,Tryz.ntmps61
  go_wp2_with (fail)
  go_loopw [13,6] (fun x13 x6 wr => ∃ (j : Nat) (U : Option Addr) (uc : Nat) (vs : List (Nat × Array Value)) (s1 : Sh) (y : PSc),j ≤ l.length ∧ x13 = .int .i64 j ∧ x6 = .slice U vs.length uc ∧ Hid (vs.length = j) ∧ Hid (FnOwn wr w.heap.size (.slice U vs.length uc) vs) ∧ Hid (SceneAt wr g b m s1 ⟨Z.1,Z.2,EO Z (.slice U vs.length uc)⟩ y) ∧ Hid (TurnP (SFoot b m s x.t) (SFoot b m s1 y.t) w wr) ∧ Hid (Chn g b m Z wr (Sor b m s1 y.t (EO Z (.slice U vs.length uc))) vs.reverse y x) ∧ Hid (R = ((allS Z.2.2 y ((l.map (·.o)).drop j)).1,(allS Z.2.2 y ((l.map (·.o)).drop j)).2.1 + j,(allS Z.2.2 y ((l.map (·.o)).drop j)).2.2)) ∧ Hid (∀ i,Fit (y.nd i)) ∧ Hid (y.t.length ≤ x.t.length + j ∧ (y.t.length ≤ x.t.length ∨ ((y.t.length + 1 : Nat) : Int) ≤ Z.2.2))) (fun x13 _ _ => l.length - (intOf x13).toNat)
  case atStart => exact ⟨0,none,0,[],s,x,Nat.zero_le _,rfl,rfl,rfl,SOwn.nil _ _,HS.out.part (fun _ _ _ => rfl) (fun k e => ⟨e.elim (fun e => (HS.out.old k e).1) (fun e => nomatch e),e.imp_right (fun e => nomatch e)⟩),TurnP.refl _ _,rfl,(by show R = _; rw [← HE.out]; rfl),HFX.out,⟨Nat.le_refl _,.inl (Nat.le_refl _)⟩⟩
  case round =>
    obtain ⟨j,U,uc,vs,s1,y,hj,rfl,rfl,HVL,HU,HY,HT,HCH,HRE,HFY,HYL⟩ := hrel
    generalize wr = wA at *
    have HSZ := Lib.hid HT.out.size
    by_cases hlt : j < l.length
    · have t1 : decide (j < l.length) = true := by simpa using hlt
      have HLT := Lib.hid hlt
      have HOA := Lib.hid (HO.out.turn HT.out)
      obtain ⟨lb,lo,eA,hcell⟩ := HOA.out.row (by omega)
      subst eA
      obtain ⟨q,hq⟩ : ∃ q,q = l[j]'hlt := ⟨_,rfl⟩
      have HQM : Hid (q ∈ l) := by rw [hq]; exact List.getElem_mem hlt
      have HRG : Hid (wA.rangeAt lb (lo + j * 23) q.cs) := by
        rw [hq]
        exact fun i v hv => hcell j hlt i v hv
      have hdrop : (l.map (·.o)).drop j = q.o :: (l.map (·.o)).drop (j + 1) := by
        rw [List.drop_eq_getElem_cons (by rw [List.length_map]; exact hlt),hq]
        simp only [List.getElem_map]
      have HPX := Lib.hid (HOA.out.px q HQM.out)
      have HQO := Lib.hid (HOK.out q HQM.out)
      rw [hdrop] at HRE
      clear hdrop hq hcell
      have HZ2 : Hid (Blk (wA.alloc (.cells #[.int .i64 0,.int .i64 0,.int .i64 0,.int .i64 0,.int .i64 0,.int .i64 0,.int .i64 0,.int .i64 0,.int .i64 0,.int .i64 0,.int .i64 0,.int .i64 0,.int .i64 0,.int .i64 0,.bool false,.int .i64 0,.int .i64 0,.int .i64 0,.int .i64 0,.int .u32 0,.int .i64 0,.int .i64 0,.slice none 0 0] 77)) wA.heap.size [.int .i64 0,.int .i64 0,.int .i64 0,.int .i64 0,.int .i64 0,.int .i64 0,.int .i64 0,.int .i64 0,.int .i64 0,.int .i64 0,.int .i64 0,.int .i64 0,.int .i64 0,.int .i64 0,.bool false,.int .i64 0,.int .i64 0,.int .i64 0,.int .i64 0,.int .u32 0,.int .i64 0,.int .i64 0,.slice none 0 0]) := blk_new wA [.int .i64 0,.int .i64 0,.int .i64 0,.int .i64 0,.int .i64 0,.int .i64 0,.int .i64 0,.int .i64 0,.int .i64 0,.int .i64 0,.int .i64 0,.int .i64 0,.int .i64 0,.int .i64 0,.bool false,.int .i64 0,.int .i64 0,.int .i64 0,.int .i64 0,.int .u32 0,.int .i64 0,.int .i64 0,.slice none 0 0] _
      have HBa : Hid (Below wA.heap.size wA (wA.alloc (.cells #[.int .i64 0,.int .i64 0,.int .i64 0,.int .i64 0,.int .i64 0,.int .i64 0,.int .i64 0,.int .i64 0,.int .i64 0,.int .i64 0,.int .i64 0,.int .i64 0,.int .i64 0,.int .i64 0,.bool false,.int .i64 0,.int .i64 0,.int .i64 0,.int .i64 0,.int .u32 0,.int .i64 0,.int .i64 0,.slice none 0 0] 77))) := (Below.refl _ _).alloc (Nat.le_refl _) _
      have c0 := HRG.out 0 (.int .i64 q.o.k) rfl
      have i0 : lb < wA.heap.size := World.block_lt_of_cell? wA ⟨lb,_,none⟩ c0
      clear c0
      go_upto_region 5 with (first | ((with_reducible show wpList _ _ _ (Oper.mk _ (Op.load _ _) _ _ _ _ :: _) _ _); refine wpl_row 77 _ rfl rfl _ _ rfl (q.cs) HRG.out _ Tryz.underlying77 rfl (by kernel_rfl) ?_) | ((with_reducible show wpList _ _ _ (Oper.mk _ (Op.store _ _ _) _ _ _ _ :: _) _ _); refine wpl_stow 77 _ _ rfl rfl rfl _ 0 rfl (q.cs) rfl ([.int .i64 0,.int .i64 0,.int .i64 0,.int .i64 0,.int .i64 0,.int .i64 0,.int .i64 0,.int .i64 0,.int .i64 0,.int .i64 0,.int .i64 0,.int .i64 0,.int .i64 0,.int .i64 0,.bool false,.int .i64 0,.int .i64 0,.int .i64 0,.int .i64 0,.int .u32 0,.int .i64 0,.int .i64 0,.slice none 0 0]) HZ2.out (q.cs) rfl (Nat.le_of_ble_eq_true rfl) (by kernel_rfl) (Op9.one _ _ _) ?_; intro w3 HW3 HK3))
      have HB3 : Hid (Below wA.heap.size wA w3) := HW3.out.below HBa.out (Nat.le_refl _)
      have HT3 : Hid (TurnP (SFoot b m s1 y.t) (SFoot b m s1 y.t) wA w3) := TurnP.below HB3.out
      have HC : Hid (Calls Tryz.prog 96 #[.pointer (some ⟨g,0,none⟩),.agg q.cs.toArray] w3 (OpQ g b m ⟨Z.1,Z.2,EO Z (.slice U vs.length uc)⟩ s1 y (doS Z.2.2 y q.o) w3)) := do_any (HY.out.below HB3.out) (by obtain ⟨h1,h2⟩ := HYL.out; have := HLT.out; obtain ⟨h3,h4⟩ := HN.out; omega) q.o q.A q.c (Row.below HPX.out.1 HB3.out) HQO.out (fun i _ => HFY.out i)
      have HDL : Hid ((doS Z.2.2 y q.o).1.t.length ≤ y.t.length + 1 ∧ ((doS Z.2.2 y q.o).1.t.length ≤ y.t.length ∨ (((doS Z.2.2 y q.o).1.t.length + 1 : Nat) : Int) ≤ Z.2.2)) := ⟨doS_len HY.out.tree.ok q.o,doS_most HY.out.tree.ok q.o⟩
      have HDF : Hid (∀ i,Fit ((doS Z.2.2 y q.o).1.nd i)) := doS_fit HFY.out HQO.out
      clear HZ2 HBa HW3 HRG HPX i0 hlt
      go_wp2_with ((with_reducible show wpList _ _ _ (Oper.mk _ (Op.load _ _) _ _ _ _ :: _) _ _); refine wpl_take 77 _ rfl rfl _ 0 rfl (q.cs) HK3.out (q.cs) rfl _ Tryz.underlying77 rfl (by kernel_rfl) ?_)
      refine HC.out.mono ?_
      unfold OpQ
      obtain ⟨D,hD⟩ : ∃ D,doS Z.2.2 y q.o = D := ⟨_,rfl⟩
      have HD := Lib.hid hD
      rw [hD] at HDL HDF ⊢
      obtain ⟨y2,d⟩ := D
      rintro e w4 ⟨fv,s2,rfl,h2,h3,h4⟩
      simp only at h2 h3 h4
      have HY4 := Lib.hid h2
      have HT4 : Hid (TurnP (SFoot b m s1 y.t) (SFoot b m s2 y2.t) wA w4) := HT3.out.trans h3
      have HV4 := Lib.hid h4
      have HUF : Hid (∀ k,(Value.slice U vs.length uc).ownBlock = some k → ¬ SFoot b m s1 y.t k) := fun k hk => (HY.out.old k (.inr hk)).2.1
      have HU4 : Hid (FnOwn w4 w.heap.size (.slice U vs.length uc) vs) := HU.out.stays fun k hk => (HT4.out.far k (HU.out.block hk).2 (HUF.out k hk)).2
      have HTT : Hid (TurnP (SFoot b m s x.t) (SFoot b m s2 y2.t) w w4) := HT.out.trans HT4.out
      have HCH4 : Hid (Chn g b m Z w4 (Sor b m s2 y2.t (EO Z (.slice U vs.length uc))) vs.reverse y x) := HCH.out.turn (HT4.out.sor _)
      clear h2 h3 h4 hD HC HT3 HB3 HK3 HU HUF HCH HT HY
      dsimp only
      by_cases hd : d = 0
      · subst hd
        obtain ⟨K,f,cs,rfl,hen,hK,hcl⟩ := HV4.out rfl
        have HV : Hid (UndoV g b m Z (.func (.func f) #[] cs) w4 (Sor b m s2 y2.t (EO Z (.slice U vs.length uc))) y2 y) := ⟨K,f,cs,rfl,hen,hK,hcl⟩
        clear hen hK hcl HV4
        obtain ⟨v5,w5,hrun,hown5,hg5,hn5⟩ := app_fn HU4.out (by have := HTT.out.size; omega) (f,cs) (c := 1) (by have := HVL.out; have := HLT.out; omega)
        have ht5 : TurnP (Ow (.slice U vs.length uc)) (Ow (.slice U vs.length uc)) w4 w5 := (TurnP.below ((Below.refl _ _).alloc (Nat.le_refl _) _)).trans (TurnP.grown hg5 fun k hk => hk)
        have hsame : ∀ k,k < w4.heap.size → ¬ EO Z (.slice U vs.length uc) k → w5.heap[k]? = w4.heap[k]? := fun k h1 h2 => (ht5.far k h1 fun e => h2 (.inr e)).2
        have hE5 : ∀ k,EO Z v5 k → EO Z (.slice U vs.length uc) k ∨ w4.heap.size ≤ k := fun k e => by
          rcases e with e | e
          · exact .inl (.inl e)
          · rcases hn5 with e5 | e5
            · exact .inl (.inr (e5 ▸ e))
            · have := Option.some.inj (e5.symm.trans e); exact .inr (by omega)
        have HY5 : Hid (SceneAt w5 g b m s2 ⟨Z.1,Z.2,EO Z v5⟩ y2) := HY4.out.part hsame fun k e => ⟨by
          rcases e with e | e
          · have := (HY4.out.old k (.inl e)).1; have := ht5.size; omega
          · exact (hown5.block e).2,hE5 k e⟩
        have HCH5 : Hid (Chn g b m Z w5 (Sor b m s2 y2.t (EO Z v5)) (vs ++ [(f,cs)]).reverse y2 x) := by
          rw [List.reverse_append]
          exact ⟨y,HV.out.part ht5.size hsame hE5,HCH4.out.part ht5.size hsame hE5⟩
        have HT5 : Hid (TurnP (SFoot b m s x.t) (SFoot b m s2 y2.t) w w5) := HTT.out.own ht5 fun k hk => (HU4.out.block hk).1
        obtain ⟨U5,uc5,ev5,-,-,-⟩ := SOwn.row hown5 fcs_len
        subst ev5
        have HU5 := Lib.hid hown5
        have HRE5 : Hid (R = ((allS Z.2.2 y2 ((l.map (·.o)).drop (j + 1))).1,(allS Z.2.2 y2 ((l.map (·.o)).drop (j + 1))).2.1 + (j + 1),(allS Z.2.2 y2 ((l.map (·.o)).drop (j + 1))).2.2)) := by
          have h1 := HRE.out
          show _ = _
          rw [h1]
          rw [allS_cons,if_neg (by rw [HD.out]; simp),HD.out]
          simp only [Nat.add_assoc,Nat.add_comm 1 j]
        have HYL5 : Hid (y2.t.length ≤ x.t.length + (j + 1) ∧ (y2.t.length ≤ x.t.length ∨ ((y2.t.length + 1 : Nat) : Int) ≤ Z.2.2)) := by
          obtain ⟨h1,h2⟩ := HDL.out
          obtain ⟨h3,h4⟩ := HYL.out
          simp only at h1 h2
          refine ⟨by omega,?_⟩
          rcases h2 with h2 | h2
          · rcases h4 with h4 | h4
            · exact .inl (Nat.le_trans h2 h4)
            · right; omega
          · exact .inr h2
        have HVL5 : Hid ((vs ++ [(f,cs)]).length = j + 1) := by show _ = _; rw [List.length_append,HVL.out]; rfl
        have HDF5 : Hid (∀ i,Fit (y2.nd i)) := HDF.out
        clear hown5 hg5 hn5 ht5 hsame hE5 HU4 HCH4 HV HY4 HTT HT4 HRE HD HDL HYL HVL HDF
        go_wp2_with (first | ((with_reducible show wpList _ _ _ (Oper.mk _ (Op.buildSlice _ _ _) _ _ _ _ :: _) _ _); refine wpl_bs _ _ _ rfl rfl (by simp [go_sem]) (bs_func (f,cs) _) ?_) | (at_builtin; refine wpl_append rfl _ _ 152 152 152 rfl rfl _ _ _ _ rfl rfl hrun ?_; clear hrun))
        go_roundw
        case rel => exact ⟨j + 1,U5,uc5,_,s2,y2,HLT.out,by go_num,by simp,HVL5,HU5,HY5,HT5,HCH5,HRE5,HDF5,HYL5⟩
        case measure => have := HLT.out; simp [intOf]; omega
      · have t5 : (d == 0) = false := by simpa using hd
        have hz : y2 = y := by
          have := doS_not (M := Z.2.2) (x := y) (o := q.o) (by rw [HD.out]; exact hd)
          rw [HD.out] at this
          exact this
        have HRE5 : Hid (R = (y2,j,d)) := by
          have h1 := HRE.out
          show _ = _
          rw [h1]
          rw [allS_cons,if_pos (by rw [HD.out]; exact hd),HD.out,hz]
          simp
        rw [← hz] at HCH4
        have HVL5 := HVL
        clear hd hz HV4 HRE HD HDL HDF HT4
        go_wp2_with (fail)
        go_ret2
        rw [HRE5.out]
        exact ⟨U,uc,vs,s2,rfl,HVL5.out,HU4.out,HY4.out,HTT.out,HCH4.out⟩
    · obtain rfl : j = l.length := by omega
      have t1 : decide (l.length < l.length) = false := by simp
      have HRE5 : Hid (R = (y,l.length,0)) := by
        have h1 := HRE.out
        rw [List.drop_of_length_le (by rw [List.length_map]; exact Nat.le_refl _)] at h1
        show _ = _
        rw [h1]
        simp [allS]
      clear HRE hlt
      go_wp2_with (fail)
      go_ret2
      rw [HRE5.out]
      exact ⟨U,uc,vs,s1,rfl,HVL.out,HU.out,HY.out,HT.out,HCH.out⟩
end
end Go.Proofs.YtehmblcbccceaaaGreat
