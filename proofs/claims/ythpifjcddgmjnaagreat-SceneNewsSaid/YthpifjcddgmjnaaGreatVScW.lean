import Derived.Test.YthpifjcddgmjnaaGreatVScR
import Derived.Deep.Cut
import Derived.BigQuiet
set_option maxHeartbeats 16000000
set_option maxRecDepth 100000
namespace Go.Proofs.YthpifjcddgmjnaaGreat
open Go.RowKit pxm imm trm Go.Maps
abbrev tFunc:TypeId:=1
def fcs (q:Nat×Array Value):List Value:=[.func (.func q.1) #[] q.2]
theorem fcs_len (q:Nat×Array Value):(fcs q).length=1:=rfl
theorem fcs_plain (q:Nat×Array Value):∀ u∈fcs q,u.oneCell'=true:=by
 intro u hu
 rw [List.mem_singleton.1 hu]
 rfl
theorem info_func:(Tryz.prog.info? tFunc).map (fun i=>(i.zero,i.size,i.bytes))=some (some .nilFunc,1,8):=by kernel_rfl
abbrev FnOwn (w:World) (base:Nat) (v:Value) (l:List (Nat×Array Value)):Prop:=SOwn tFunc 1 fcs w base v l
def Chn (g b m:Nat) (Z:ZZ) (w:World) (S:Bset):List (Nat×Array Value)→PSc→PSc→Prop
 | [],x',x=>x'=x
 | q :: r,x',x=>∃ y,UndoV g b m Z (.func (.func q.1) #[] q.2) w S x' y∧Chn g b m Z w S r y x
theorem Chn.turn {g b m:Nat} {Z:ZZ} {w w':World} {S S':Bset} (ht:TurnP S S' w w'):∀ {l:List (Nat×Array Value)} {x' x:PSc},Chn g b m Z w S l x' x→Chn g b m Z w' S' l x' x
 | [],_,_,h=>h
 | _ :: _,_,_,⟨y,h1,h2⟩=>⟨y,h1.turn ht,Chn.turn ht h2⟩
structure OpR where
 o:Op9
 A:Option Addr
 c:Nat
def OpR.cs (q:OpR):List Value:=q.o.cs q.A q.c
theorem OpR.cs_len (q:OpR):q.cs.length=23:=rfl
structure OpsAt (S:Bset) (w:World) (A:Option Addr) (l:List OpR):Prop where
 row:SRow 23 OpR.cs w A l
 off:∀ a,A=some a→l≠[]→¬ S a.block
 px:∀ q∈l,Row eW w q.A q.o.lk.l∧∀ a,q.A=some a→q.o.lk.l≠[]→¬ S a.block
theorem SRow.blt {α:Type} {k:Nat} {enc:α→List Value} {w:World} {A:Option Addr} {l:List α} (h:SRow k enc w A l) (he:∀ q,∃ v r,enc q=v :: r) {a:Addr} (e:A=some a) (hne:l≠[]):a.block < w.heap.size:=by
 have hn:0 < l.length:=List.length_pos_iff.2 hne
 obtain ⟨b,off,e2,hc⟩:=h hn
 rw [e] at e2
 obtain rfl:=Option.some.inj e2
 obtain ⟨v,r,hv⟩:=he l[0]
 exact World.block_lt_of_cell? w ⟨b,off + 0 * k + 0,none⟩ (hc 0 hn 0 v (by rw [hv]; rfl))
theorem OpsAt.turn {S S':Bset} {w w':World} {A:Option Addr} {l:List OpR} (h:OpsAt S w A l) (ht:TurnP S S' w w'):OpsAt S' w' A l:=
 ⟨h.row.off h.off ht,fun a e hne=>(ht.far _ (h.row.blt (fun _=>⟨_,_,rfl⟩) e hne) (h.off a e hne)).1,fun q hq=>
  ⟨Row.stays (h.px q hq).1 fun a e hne=>(ht.far _ (Row.lt (h.px q hq).1 e hne) ((h.px q hq).2 a e hne)).2,fun a e hne=>(ht.far _ (Row.lt (h.px q hq).1 e hne) ((h.px q hq).2 a e hne)).1⟩⟩
def allS (most:Int) (x:PSc):List Op9→PSc×Nat×Int
 | []=>(x,0,0)
 | o :: l=>if (doS most x o).2≠0 then (x,0,(doS most x o).2) else ((allS most (doS most x o).1 l).1,(allS most (doS most x o).1 l).2.1 + 1,(allS most (doS most x o).1 l).2.2)
theorem allS_cons (M:Int) (x:PSc) (o:Op9) (l:List Op9):allS M x (o :: l)=if (doS M x o).2≠0 then (x,0,(doS M x o).2) else ((allS M (doS M x o).1 l).1,(allS M (doS M x o).1 l).2.1 + 1,(allS M (doS M x o).1 l).2.2):=rfl
theorem setS_not {x:PSc} {o:Op9} (h:(setS x o).2≠0):(setS x o).1=x:=by
 unfold setS at h ⊢
 by_cases h1:has x.t o.i=false
 ·rw [if_pos h1]
 rw [if_neg h1] at h ⊢
 by_cases h2:(setN Nd.plain o).chk≠0
 ·rw [if_pos h2]
 ·rw [if_neg h2] at h; exact absurd rfl h
theorem createS_not {M:Int} {x:PSc} {i p n:Int} (h:(createS M x i p n).2≠0):(createS M x i p n).1=x:=by
 unfold createS at h ⊢
 by_cases h1:(addS x.t i p n).2≠0
 ·rw [if_pos h1]
 rw [if_neg h1] at h ⊢
 by_cases h2:M < ((x.t.length + 2:Nat):Int)
 ·rw [if_pos h2]
 ·rw [if_neg h2] at h; exact absurd rfl h
theorem doS_not {M:Int} {x:PSc} {o:Op9} (h:(doS M x o).2≠0):(doS M x o).1=x:=by
 unfold doS at h ⊢
 by_cases h1:o.k=1
 ·rw [if_pos h1] at h ⊢; exact createS_not h
 rw [if_neg h1] at h ⊢
 by_cases h2:o.k=2
 ·rw [if_pos h2] at h ⊢
  unfold removeS at h ⊢
  by_cases h3:(remS x.t o.i).2.2≠0
  ·rw [if_pos h3]
  ·rw [if_neg h3] at h; exact absurd rfl h
 rw [if_neg h2] at h ⊢
 by_cases h3:o.k=3
 ·rw [if_pos h3] at h ⊢
  unfold moveS at h ⊢
  by_cases h4:(movS x.t o.i o.p o.n).2≠0
  ·rw [if_pos h4]
  ·rw [if_neg h4] at h; exact absurd rfl h
 rw [if_neg h3] at h ⊢
 by_cases h4:4≤o.k∧o.k≤8
 ·rw [if_pos h4] at h ⊢; exact setS_not h
 ·rw [if_neg h4]
theorem doS_len {M:Int} {x:PSc} (ok:Ok x.t) (o:Op9):(doS M x o).1.t.length≤x.t.length + 1:=by
 by_cases h:(doS M x o).2≠0
 ·rw [doS_not h]; omega
 unfold doS
 by_cases h1:o.k=1
 ·rw [if_pos h1]
  unfold createS
  have:=(addS_ok ok o.i o.p o.n).2
  split
  ·simp
  ·split
   ·simp
   ·exact this
 rw [if_neg h1]
 by_cases h2:o.k=2
 ·rw [if_pos h2]
  unfold removeS
  have:=(remS_ok ok o.i).2
  split
  ·simp
  ·exact Nat.le_succ_of_le this
 rw [if_neg h2]
 by_cases h3:o.k=3
 ·rw [if_pos h3]
  unfold moveS
  have:=(movS_ok ok o.i o.p o.n).2
  split
  ·simp
  ·exact Nat.le_succ_of_le (Nat.le_of_eq this)
 rw [if_neg h3]
 by_cases h4:4≤o.k∧o.k≤8
 ·rw [if_pos h4]
  unfold setS
  split
  ·simp
  ·split <;> simp
 ·rw [if_neg h4]; simp
theorem doS_okk {M:Int} {x:PSc} (ok:Ok x.t) (o:Op9):Ok (doS M x o).1.t:=by
 unfold doS
 split
 ·unfold createS
  split
  ·exact ok
  ·split
   ·exact ok
   ·exact (addS_ok ok _ _ _).1
 split
 ·unfold removeS
  split
  ·exact ok
  ·exact (remS_ok ok _).1
 split
 ·unfold moveS
  split
  ·exact ok
  ·exact (movS_ok ok _ _ _).1
 split
 ·unfold setS
  split
  ·exact ok
  ·split <;> exact ok
 ·exact ok
theorem doS_most {M:Int} {x:PSc} (ok:Ok x.t) (o:Op9):(doS M x o).1.t.length≤x.t.length∨((doS M x o).1.t.length + 1:Nat)≤M:=by
 have h9:=doS_len (M:=M) ok o
 by_cases h:(doS M x o).2≠0
 ·rw [doS_not h]; exact .inl (Nat.le_refl _)
 by_cases h1:o.k=1
 ·have e:doS M x o=createS M x o.i o.p o.n:=by unfold doS; rw [if_pos h1]
  rw [e] at h9 h ⊢
  unfold createS at h9 h ⊢
  by_cases e1:(addS x.t o.i o.p o.n).2≠0
  ·rw [if_pos e1]; exact .inl (Nat.le_refl _)
  rw [if_neg e1] at h9 h ⊢
  by_cases e2:M < ((x.t.length + 2:Nat):Int)
  ·rw [if_pos e2]; exact .inl (Nat.le_refl _)
  rw [if_neg e2] at h9 ⊢
  right
  simp only at h9 ⊢
  omega
 left
 unfold doS
 rw [if_neg h1]
 by_cases h2:o.k=2
 ·rw [if_pos h2]
  unfold removeS
  have:=(remS_ok ok o.i).2
  split
  ·exact Nat.le_refl _
  ·exact this
 rw [if_neg h2]
 by_cases h3:o.k=3
 ·rw [if_pos h3]
  unfold moveS
  have:=(movS_ok ok o.i o.p o.n).2
  split
  ·exact Nat.le_refl _
  ·exact Nat.le_of_eq this
 rw [if_neg h3]
 by_cases h4:4≤o.k∧o.k≤8
 ·rw [if_pos h4]
  unfold setS
  split
  ·exact Nat.le_refl _
  ·split <;> exact Nat.le_refl _
 ·rw [if_neg h4]; exact Nat.le_refl _
def Room (M:Int) (x:PSc) (n:Nat):Prop:=n≤1024∧(x.t.length + n≤900∨(x.t.length≤900∧M≤900))
theorem allS_room {M:Int}:∀ (l:List Op9) {x:PSc},Ok x.t→(allS M x l).1.t.length≤x.t.length∨(((allS M x l).1.t.length + 1:Nat):Int)≤M
 | [],_,_=>.inl (Nat.le_refl _)
 | o :: l,x,ok=>by
  rw [allS_cons]
  split
  ·exact .inl (Nat.le_refl _)
  ·have ok2:Ok (doS M x o).1.t:=doS_okk ok o
   rcases allS_room l ok2 with h | h
   ·rcases doS_most (M:=M) ok o with h2 | h2
    ·exact .inl (Nat.le_trans h h2)
    ·right; simp only at h ⊢; omega
   ·exact .inr h
theorem upd_all {α:Type} {P:α→Prop} {f:Int→α} {i:Int} {y:α} (h:∀ j,P (f j)) (hy:P y):∀ j,P (upd f i y j):=fun j=>by
 unfold upd
 split
 ·exact hy
 ·exact h j
theorem doS_fit {M:Int} {x:PSc} {o:Op9} (h:∀ i,Fit (x.nd i)) (ho:OpOk o):∀ i,Fit ((doS M x o).1.nd i):=by
 by_cases hz:(doS M x o).2≠0
 ·rw [doS_not hz]; exact h
 unfold doS
 by_cases h1:o.k=1
 ·rw [if_pos h1]
  unfold createS
  split
  ·exact h
  ·split
   ·exact h
   ·exact upd_all h fit_plain
 rw [if_neg h1]
 by_cases h2:o.k=2
 ·rw [if_pos h2]
  unfold removeS
  split <;> exact h
 rw [if_neg h2]
 by_cases h3:o.k=3
 ·rw [if_pos h3]
  unfold moveS
  split <;> exact h
 rw [if_neg h3]
 by_cases h4:4≤o.k∧o.k≤8
 ·rw [if_pos h4]
  unfold setS
  split
  ·exact h
  ·split
   ·exact h
   ·exact upd_all h (pick_fit ⟨ho.fit.p,ho.fit.l,ho.fit.len⟩ (h _))
 ·rw [if_neg h4]; exact h
def EO (Z:ZZ) (v:Value):Bset:=fun k=>Z.3 k∨v.ownBlock=some k
theorem TurnP.own {S S':Bset} {w w4 w5:World} {v:Value} (h:TurnP S S' w w4) (h5:TurnP (Ow v) (Ow v) w4 w5) (ho:∀ k,v.ownBlock=some k→w.heap.size≤k):TurnP S S' w w5:=
 ⟨h5.os.trans h.os,h5.tape.trans h.tape,h5.output.trans h.output,Nat.le_trans h.size h5.size,fun k hk hn=>by
  have h1:=h.far k hk hn
  exact ⟨h1.1,(h5.far k (Nat.lt_of_lt_of_le hk h.size) fun e=>by have:=ho k e; omega).2.trans h1.2⟩⟩
theorem NdOff.part {E E' S:Bset} {w w':World} {n:Nd} {A:Option Addr} (h:NdOff E S w n A) (hsame:∀ k,k < w.heap.size→¬ E k→w'.heap[k]?=w.heap[k]?) (hE:∀ k,E' k→E k∨w.heap.size≤k):NdOff E' S w' n A:=
 ⟨Row.stays h.1 fun a e hne=>hsame _ (Row.lt h.1 e hne) (h.3 a e hne),h.2,fun a e hne k=>(hE _ k).elim (h.3 a e hne) fun h2=>by have:=Row.lt h.1 e hne; omega⟩
theorem SceneAt.part {w w':World} {g b m:Nat} {s:Sh} {Z:ZZ} {x:PSc} {E':Bset} (h:SceneAt w g b m s Z x) (hsame:∀ k,k < w.heap.size→¬ Z.3 k→w'.heap[k]?=w.heap[k]?) (hE:∀ k,E' k→k < w'.heap.size∧(Z.3 k∨w.heap.size≤k)):SceneAt w' g b m s ⟨Z.1,Z.2,E'⟩ x:=by
 obtain ⟨es,hm,h1,h2⟩:=h.map
 have hin:∀ k,SFoot b m s x.t k→w'.heap[k]?=w.heap[k]?:=fun k hk=>hsame k (h.inside k hk) fun e=>(h.old k e).2.1 hk
 refine ⟨h.blk.stays (hsame g h.blk.inside fun e=>(h.old g e).2.2 rfl),h.tree.stays fun k hk=>hin k (.inr hk),⟨es,hm.stays (hin m (.inl rfl)),h1,fun i hi=>?_⟩,h.gfar,h.mfar,fun k hk=>⟨(hE k hk).1,?_⟩⟩
 ·obtain ⟨v,e,A,c,e2,hv⟩:=h2 i hi
  exact ⟨v,e,A,c,e2,hv.part hsame fun k hk=>(hE k hk).2⟩
 ·rcases (hE k hk).2 with e | e
  ·exact (h.old k e).2
  ·exact ⟨fun e2=>by have:=h.inside k e2; omega,fun e2=>by have:=h.blk.inside; omega⟩
theorem UndoV.part {g b m:Nat} {Z:ZZ} {v:Value} {w w':World} {s:Sh} {t:T} {E E':Bset} {x' x:PSc} (h:UndoV g b m Z v w (Sor b m s t E) x' x) (hsz:w.heap.size≤w'.heap.size) (hsame:∀ k,k < w.heap.size→¬ E k→w'.heap[k]?=w.heap[k]?) (hE:∀ k,E' k→E k∨w.heap.size≤k):UndoV g b m Z v w' (Sor b m s t E') x' x:=by
 obtain ⟨K,f,cs,e,he,hk,hc⟩:=h
 refine ⟨K,f,cs,e,he,fun k hK=>⟨Nat.lt_of_lt_of_le (hk k hK).1 hsz,fun h2=>?_⟩,fun W s1 E1 hW hs=>hc W s1 E1 (fun k hK=>⟨(hW k hK).1.trans (hsame k (hk k hK).1 fun h2=>(hk k hK).2 (.inr h2)),(hW k hK).2⟩) hs⟩
 rcases h2 with h2 | h2
 ·exact (hk k hK).2 (.inl h2)
 ·rcases hE k h2 with h3 | h3
  ·exact (hk k hK).2 (.inr h3)
  ·have:=(hk k hK).1; omega
theorem Chn.part {g b m:Nat} {Z:ZZ} {w w':World} {s:Sh} {t:T} {E E':Bset} (hsz:w.heap.size≤w'.heap.size) (hsame:∀ k,k < w.heap.size→¬ E k→w'.heap[k]?=w.heap[k]?) (hE:∀ k,E' k→E k∨w.heap.size≤k):∀ {l:List (Nat×Array Value)} {x' x:PSc},Chn g b m Z w (Sor b m s t E) l x' x→Chn g b m Z w' (Sor b m s t E') l x' x
 | [],_,_,h=>h
 | _ :: _,_,_,⟨y,h1,h2⟩=>⟨y,h1.part hsz hsame hE,Chn.part hsz hsame hE h2⟩
theorem TurnP.sor {b m:Nat} {s s':Sh} {t t':T} {w w':World} (h:TurnP (SFoot b m s t) (SFoot b m s' t') w w') (E:Bset):TurnP (Sor b m s t E) (Sor b m s' t' E) w w':=
 ⟨h.os,h.tape,h.output,h.size,fun k hk hn=>⟨fun e=>e.elim (h.far k hk fun e=>hn (.inl e)).1 fun e=>hn (.inr e),(h.far k hk fun e=>hn (.inl e)).2⟩⟩
def AllQ (g b m:Nat) (Z:ZZ) (s:Sh) (x:PSc) (r:PSc×Nat×Int) (w:World) (e:Ending) (w':World):Prop:=
 ∃ (U:Option Addr) (uc:Nat) (vs:List (Nat×Array Value)) (s':Sh),e=.returned (.tuple #[.slice U vs.length uc,.int .i64 r.2.2])∧vs.length=r.2.1∧FnOwn w' w.heap.size (.slice U vs.length uc) vs ∧
  SceneAt w' g b m s' ⟨Z.1,Z.2,EO Z (.slice U vs.length uc)⟩ r.1∧TurnP (SFoot b m s x.t) (SFoot b m s' r.1.t) w w'∧Chn g b m Z w' (Sor b m s' r.1.t (EO Z (.slice U vs.length uc))) vs.reverse r.1 x
theorem bs_func (q:Nat×Array Value) (w:World):(Instr.buildSlice 164 1 #[(0,.func (.func q.1) #[] q.2)]).run Tryz.prog w=.ok (.slice (some ⟨w.heap.size,0,none⟩) 1 1) (w.alloc (.cells (fcs q).toArray tFunc)):=by kernel_rfl
theorem app_fn {n0:Nat} {w:World} {v:Value} {l:List (Nat×Array Value)} (h:FnOwn w n0 v l) (hb:n0≤w.heap.size) (q:Nat×Array Value) {c:Nat} (hn:l.length≤900000000) :
  ∃ v' w',(Builtin.append_ #[164,164] 164 #[v,.slice (some ⟨w.heap.size,0,none⟩) 1 c]).run Tryz.prog (w.alloc (.cells (fcs q).toArray tFunc))=.ok v' w'∧FnOwn w' n0 v' (l++[q]) ∧
   (w.alloc (.cells (fcs q).toArray tFunc)).grownBy w' v.ownBlock∧(v'.ownBlock=v.ownBlock∨v'.ownBlock=some (w.heap.size + 1)):=by
 obtain ⟨v',w',h1,h2,h3,h4⟩:=SOwn.app (P:=Tryz.prog) (xs:=[q]) (c:=c) (g:=w.heap.size) (o:=0) Tryz.underlying164 info_func rfl (by decide) (by decide) fcs_len fcs_plain
  (h.below ((Below.refl _ _).alloc (Nat.le_refl _) (.cells (fcs q).toArray tFunc))) (fun _=>srow_new (enc:=fcs) fcs_len w [q] _ (by simp)) (by simp; omega) (by simp; omega)
 refine ⟨v',w',h1,h2,h3,?_⟩
 simpa using h4
section
variable {w:World} {g b m:Nat} {s:Sh} {Z:ZZ} {x:PSc}
theorem all_any (h:SceneAt w g b m s Z x) (l:List OpR) (A:Option Addr) (c:Nat) (ho:OpsAt (SFoot b m s x.t) w A l) (hok:∀ q∈l,OpOk q.o) (hfx:∀ i,Fit (x.nd i)) (hn:Room Z.2.2 x l.length) :
  Calls Tryz.prog 72 #[.pointer (some ⟨g,0,none⟩),.slice A l.length c] w (AllQ g b m Z s x (allS Z.2.2 x (l.map (·.o))) w):=by
 have HS:=Hd h
 have HO:=Hd ho
 have HOK:=Hd hok
 have HFX:=Hd hfx
 have HN:=Hd hn
 obtain ⟨R,hR⟩:∃ R,allS Z.2.2 x (l.map (·.o))=R:=⟨_,rfl⟩
 have HE:=Hd hR
 rw [hR]
 have hlb:(l.length:Int)≤1024:=by have:=hn.1; omega
 clear hR h ho hok hfx hn
 go_enter Tryz.func72,Tryz.ntmps72
 go_wp2_with (fail)
 go_loopw [13,6] (fun x13 x6 wr=>∃ (j:Nat) (U:Option Addr) (uc:Nat) (vs:List (Nat×Array Value)) (s1:Sh) (y:PSc),j≤l.length∧x13=.int .i64 j∧x6=.slice U vs.length uc∧Hid (vs.length=j)∧Hid (FnOwn wr w.heap.size (.slice U vs.length uc) vs)∧Hid (SceneAt wr g b m s1 ⟨Z.1,Z.2,EO Z (.slice U vs.length uc)⟩ y)∧Hid (TurnP (SFoot b m s x.t) (SFoot b m s1 y.t) w wr)∧Hid (Chn g b m Z wr (Sor b m s1 y.t (EO Z (.slice U vs.length uc))) vs.reverse y x)∧Hid (R=((allS Z.2.2 y ((l.map (·.o)).drop j)).1,(allS Z.2.2 y ((l.map (·.o)).drop j)).2.1 + j,(allS Z.2.2 y ((l.map (·.o)).drop j)).2.2))∧Hid (∀ i,Fit (y.nd i))∧Hid (y.t.length≤x.t.length + j∧(y.t.length≤x.t.length∨((y.t.length + 1:Nat):Int)≤Z.2.2))) (fun x13 _ _=>l.length - (intOf x13).toNat)
 case atStart=>exact ⟨0,none,0,[],s,x,Nat.zero_le _,rfl,rfl,rfl,SOwn.nil _ _,HS.out.part (fun _ _ _=>rfl) (fun k e=>⟨e.elim (fun e=>(HS.out.old k e).1) (fun e=>nomatch e),e.imp_right (fun e=>nomatch e)⟩),TurnP.refl _ _,rfl,(by show R=_; rw [← HE.out]; rfl),HFX.out,⟨Nat.le_refl _,.inl (Nat.le_refl _)⟩⟩
 case round=>
  obtain ⟨j,U,uc,vs,s1,y,hj,rfl,rfl,HVL,HU,HY,HT,HCH,HRE,HFY,HYL⟩:=hrel
  generalize wr=wA at *
  have HSZ:=Hd HT.out.size
  by_cases hlt:j < l.length
  ·have t1:decide (j < l.length)=true:=by simpa using hlt
   have HLT:=Hd hlt
   have HOA:=Hd (HO.out.turn HT.out)
   obtain ⟨lb,lo,eA,hcell⟩:=HOA.out.row (by omega)
   subst eA
   obtain ⟨q,hq⟩:∃ q,q=l[j]'hlt:=⟨_,rfl⟩
   have HQM:Hid (q∈l):=by rw [hq]; exact List.getElem_mem hlt
   have HRG:Hid (wA.rangeAt lb (lo + j * 23) q.cs):=by
    rw [hq]
    exact fun i v hv=>hcell j hlt i v hv
   have hdrop:(l.map (·.o)).drop j=q.o :: (l.map (·.o)).drop (j + 1):=by
    rw [List.drop_eq_getElem_cons (by rw [List.length_map]; exact hlt),hq]
    simp only [List.getElem_map]
   have HPX:=Hd (HOA.out.px q HQM.out)
   have HQO:=Hd (HOK.out q HQM.out)
   rw [hdrop] at HRE
   clear hdrop hq hcell
   have HZ2:Hid (Blk (wA.alloc (.cells #[.int .i64 0,.int .i64 0,.int .i64 0,.int .i64 0,.int .i64 0,.int .i64 0,.int .i64 0,.int .i64 0,.int .i64 0,.int .i64 0,.int .i64 0,.int .i64 0,.int .i64 0,.int .i64 0,.bool false,.int .i64 0,.int .i64 0,.int .i64 0,.int .i64 0,.int .u32 0,.int .i64 0,.int .i64 0,.slice none 0 0] 77)) wA.heap.size [.int .i64 0,.int .i64 0,.int .i64 0,.int .i64 0,.int .i64 0,.int .i64 0,.int .i64 0,.int .i64 0,.int .i64 0,.int .i64 0,.int .i64 0,.int .i64 0,.int .i64 0,.int .i64 0,.bool false,.int .i64 0,.int .i64 0,.int .i64 0,.int .i64 0,.int .u32 0,.int .i64 0,.int .i64 0,.slice none 0 0]):=blk_new wA [.int .i64 0,.int .i64 0,.int .i64 0,.int .i64 0,.int .i64 0,.int .i64 0,.int .i64 0,.int .i64 0,.int .i64 0,.int .i64 0,.int .i64 0,.int .i64 0,.int .i64 0,.int .i64 0,.bool false,.int .i64 0,.int .i64 0,.int .i64 0,.int .i64 0,.int .u32 0,.int .i64 0,.int .i64 0,.slice none 0 0] _
   have HBa:Hid (Below wA.heap.size wA (wA.alloc (.cells #[.int .i64 0,.int .i64 0,.int .i64 0,.int .i64 0,.int .i64 0,.int .i64 0,.int .i64 0,.int .i64 0,.int .i64 0,.int .i64 0,.int .i64 0,.int .i64 0,.int .i64 0,.int .i64 0,.bool false,.int .i64 0,.int .i64 0,.int .i64 0,.int .i64 0,.int .u32 0,.int .i64 0,.int .i64 0,.slice none 0 0] 77))):=(Below.refl _ _).alloc (Nat.le_refl _) _
   have c0:=HRG.out 0 (.int .i64 q.o.k) rfl
   have i0:lb < wA.heap.size:=World.block_lt_of_cell? wA ⟨lb,_,none⟩ c0
   clear c0
   go_upto_region 5 with (first | ((with_reducible show wpList _ _ _ (Oper.mk _ (Op.load _ _) _ _ _ _ :: _) _ _); refine wpl_row 77 _ rfl rfl _ _ rfl (q.cs) HRG.out _ Tryz.underlying77 rfl (by kernel_rfl) ?_) | ((with_reducible show wpList _ _ _ (Oper.mk _ (Op.store _ _ _) _ _ _ _ :: _) _ _); refine wpl_stow 77 _ _ rfl rfl rfl _ 0 rfl (q.cs) rfl ([.int .i64 0,.int .i64 0,.int .i64 0,.int .i64 0,.int .i64 0,.int .i64 0,.int .i64 0,.int .i64 0,.int .i64 0,.int .i64 0,.int .i64 0,.int .i64 0,.int .i64 0,.int .i64 0,.bool false,.int .i64 0,.int .i64 0,.int .i64 0,.int .i64 0,.int .u32 0,.int .i64 0,.int .i64 0,.slice none 0 0]) HZ2.out (q.cs) rfl (Nat.le_of_ble_eq_true rfl) (by kernel_rfl) (Op9.one _ _ _) ?_; intro w3 HW3 HK3))
   have HB3:Hid (Below wA.heap.size wA w3):=HW3.out.below HBa.out (Nat.le_refl _)
   have HT3:Hid (TurnP (SFoot b m s1 y.t) (SFoot b m s1 y.t) wA w3):=TurnP.below HB3.out
   have HC:Hid (Calls Tryz.prog 121 #[.pointer (some ⟨g,0,none⟩),.agg q.cs.toArray] w3 (OpQ g b m ⟨Z.1,Z.2,EO Z (.slice U vs.length uc)⟩ s1 y (doS Z.2.2 y q.o) w3)):=do_any (HY.out.below HB3.out) (by obtain ⟨h1,h2⟩:=HYL.out; have:=HLT.out; obtain ⟨h3,h4⟩:=HN.out; omega) q.o q.A q.c (Row.below HPX.out.1 HB3.out) HQO.out (fun i _=>HFY.out i)
   have HDL:Hid ((doS Z.2.2 y q.o).1.t.length≤y.t.length + 1∧((doS Z.2.2 y q.o).1.t.length≤y.t.length∨(((doS Z.2.2 y q.o).1.t.length + 1:Nat):Int)≤Z.2.2)):=⟨doS_len HY.out.tree.ok q.o,doS_most HY.out.tree.ok q.o⟩
   have HDF:Hid (∀ i,Fit ((doS Z.2.2 y q.o).1.nd i)):=doS_fit HFY.out HQO.out
   clear HZ2 HBa HW3 HRG HPX i0 hlt
   go_wp2_with ((with_reducible show wpList _ _ _ (Oper.mk _ (Op.load _ _) _ _ _ _ :: _) _ _); refine wpl_take 77 _ rfl rfl _ 0 rfl (q.cs) HK3.out (q.cs) rfl _ Tryz.underlying77 rfl (by kernel_rfl) ?_)
   refine HC.out.mono ?_
   unfold OpQ
   obtain ⟨D,hD⟩:∃ D,doS Z.2.2 y q.o=D:=⟨_,rfl⟩
   have HD:=Hd hD
   rw [hD] at HDL HDF ⊢
   obtain ⟨y2,d⟩:=D
   rintro e w4 ⟨fv,s2,rfl,h2,h3,h4⟩
   simp only at h2 h3 h4
   have HY4:=Hd h2
   have HT4:Hid (TurnP (SFoot b m s1 y.t) (SFoot b m s2 y2.t) wA w4):=HT3.out.trans h3
   have HV4:=Hd h4
   have HUF:Hid (∀ k,(Value.slice U vs.length uc).ownBlock=some k→¬ SFoot b m s1 y.t k):=fun k hk=>(HY.out.old k (.inr hk)).2.1
   have HU4:Hid (FnOwn w4 w.heap.size (.slice U vs.length uc) vs):=HU.out.stays fun k hk=>(HT4.out.far k (HU.out.block hk).2 (HUF.out k hk)).2
   have HTT:Hid (TurnP (SFoot b m s x.t) (SFoot b m s2 y2.t) w w4):=HT.out.trans HT4.out
   have HCH4:Hid (Chn g b m Z w4 (Sor b m s2 y2.t (EO Z (.slice U vs.length uc))) vs.reverse y x):=HCH.out.turn (HT4.out.sor _)
   clear h2 h3 h4 hD HC HT3 HB3 HK3 HU HUF HCH HT HY
   dsimp only
   by_cases hd:d=0
   ·subst hd
    obtain ⟨K,f,cs,rfl,hen,hK,hcl⟩:=HV4.out rfl
    have HV:Hid (UndoV g b m Z (.func (.func f) #[] cs) w4 (Sor b m s2 y2.t (EO Z (.slice U vs.length uc))) y2 y):=⟨K,f,cs,rfl,hen,hK,hcl⟩
    clear hen hK hcl HV4
    obtain ⟨v5,w5,hrun,hown5,hg5,hn5⟩:=app_fn HU4.out (by have:=HTT.out.size; omega) (f,cs) (c:=1) (by have:=HVL.out; have:=HLT.out; omega)
    have ht5:TurnP (Ow (.slice U vs.length uc)) (Ow (.slice U vs.length uc)) w4 w5:=(TurnP.below ((Below.refl _ _).alloc (Nat.le_refl _) _)).trans (TurnP.grown hg5 fun k hk=>hk)
    have hsame:∀ k,k < w4.heap.size→¬ EO Z (.slice U vs.length uc) k→w5.heap[k]?=w4.heap[k]?:=fun k h1 h2=>(ht5.far k h1 fun e=>h2 (.inr e)).2
    have hE5:∀ k,EO Z v5 k→EO Z (.slice U vs.length uc) k∨w4.heap.size≤k:=fun k e=>by
     rcases e with e | e
     ·exact .inl (.inl e)
     ·rcases hn5 with e5 | e5
      ·exact .inl (.inr (e5 ▸ e))
      ·have:=Option.some.inj (e5.symm.trans e); exact .inr (by omega)
    have HY5:Hid (SceneAt w5 g b m s2 ⟨Z.1,Z.2,EO Z v5⟩ y2):=HY4.out.part hsame fun k e=>⟨by
     rcases e with e | e
     ·have:=(HY4.out.old k (.inl e)).1; have:=ht5.size; omega
     ·exact (hown5.block e).2,hE5 k e⟩
    have HCH5:Hid (Chn g b m Z w5 (Sor b m s2 y2.t (EO Z v5)) (vs++[(f,cs)]).reverse y2 x):=by
     rw [List.reverse_append]
     exact ⟨y,HV.out.part ht5.size hsame hE5,HCH4.out.part ht5.size hsame hE5⟩
    have HT5:Hid (TurnP (SFoot b m s x.t) (SFoot b m s2 y2.t) w w5):=HTT.out.own ht5 fun k hk=>(HU4.out.block hk).1
    obtain ⟨U5,uc5,ev5,-,-,-⟩:=SOwn.row hown5 fcs_len
    subst ev5
    have HU5:=Hd hown5
    have HRE5:Hid (R=((allS Z.2.2 y2 ((l.map (·.o)).drop (j + 1))).1,(allS Z.2.2 y2 ((l.map (·.o)).drop (j + 1))).2.1 + (j + 1),(allS Z.2.2 y2 ((l.map (·.o)).drop (j + 1))).2.2)):=by
     have h1:=HRE.out
     show _=_
     rw [h1]
     rw [allS_cons,if_neg (by rw [HD.out]; simp),HD.out]
     simp only [Nat.add_assoc,Nat.add_comm 1 j]
    have HYL5:Hid (y2.t.length≤x.t.length + (j + 1)∧(y2.t.length≤x.t.length∨((y2.t.length + 1:Nat):Int)≤Z.2.2)):=by
     obtain ⟨h1,h2⟩:=HDL.out
     obtain ⟨h3,h4⟩:=HYL.out
     simp only at h1 h2
     refine ⟨by omega,?_⟩
     rcases h2 with h2 | h2
     ·rcases h4 with h4 | h4
      ·exact .inl (Nat.le_trans h2 h4)
      ·right; omega
     ·exact .inr h2
    have HVL5:Hid ((vs++[(f,cs)]).length=j + 1):=by show _=_; rw [List.length_append,HVL.out]; rfl
    have HDF5:Hid (∀ i,Fit (y2.nd i)):=HDF.out
    clear hown5 hg5 hn5 ht5 hsame hE5 HU4 HCH4 HV HY4 HTT HT4 HRE HD HDL HYL HVL HDF
    go_wp2_with (first | ((with_reducible show wpList _ _ _ (Oper.mk _ (Op.buildSlice _ _ _) _ _ _ _ :: _) _ _); refine wpl_bs _ _ _ rfl rfl (by simp [go_sem]) (bs_func (f,cs) _) ?_) | (at_builtin; refine wpl_append rfl _ _ 164 164 164 rfl rfl _ _ _ _ rfl rfl hrun ?_; clear hrun))
    go_roundw
    case rel=>exact ⟨j + 1,U5,uc5,_,s2,y2,HLT.out,by go_num,by simp,HVL5,HU5,HY5,HT5,HCH5,HRE5,HDF5,HYL5⟩
    case measure=>have:=HLT.out; simp [intOf]; omega
   ·have t5:(d == 0)=false:=by simpa using hd
    have hz:y2=y:=by
     have:=doS_not (M:=Z.2.2) (x:=y) (o:=q.o) (by rw [HD.out]; exact hd)
     rw [HD.out] at this
     exact this
    have HRE5:Hid (R=(y2,j,d)):=by
     have h1:=HRE.out
     show _=_
     rw [h1]
     rw [allS_cons,if_pos (by rw [HD.out]; exact hd),HD.out,hz]
     simp
    rw [← hz] at HCH4
    have HVL5:=HVL
    clear hd hz HV4 HRE HD HDL HDF HT4
    go_wp2_with (fail)
    go_ret2
    rw [HRE5.out]
    exact ⟨U,uc,vs,s2,rfl,HVL5.out,HU4.out,HY4.out,HTT.out,HCH4.out⟩
  ·obtain rfl:j=l.length:=by omega
   have t1:decide (l.length < l.length)=false:=by simp
   have HRE5:Hid (R=(y,l.length,0)):=by
    have h1:=HRE.out
    rw [List.drop_of_length_le (by rw [List.length_map]; exact Nat.le_refl _)] at h1
    show _=_
    rw [h1]
    simp [allS]
   clear HRE hlt
   go_wp2_with (fail)
   go_ret2
   rw [HRE5.out]
   exact ⟨U,uc,vs,s1,rfl,HVL.out,HU.out,HY.out,HT.out,HCH.out⟩
end
end Go.Proofs.YthpifjcddgmjnaaGreat
namespace Go.Proofs.YthpifjcddgmjnaaGreat
open Go.RowKit trm itr Go.Shelf
attribute [local go_sem] Oper.semAt_some
theorem backf_call (A:Option Addr) (n c:Nat) (w:World):Calls Tryz.prog 74 #[.slice A n c] w fun e w'=>e=.returned (.func (.func 125) #[] #[.pointer (some ⟨w.heap.size,0,none⟩)])∧w'=w.alloc (.cells #[.slice A n c] 164):=by
 go_enter Tryz.func74,Tryz.ntmps74
 go_wp2_with (fail)
 go_ret
 exact ⟨rfl,rfl⟩
def fv (q:Nat×Array Value):Value:=.func (.func q.1) #[] q.2
structure BackF (bx:Nat) (A:Option Addr) (c:Nat) (l:List (Nat×Array Value)) (W:World):Prop where
 box:W.cell? ⟨bx,0,none⟩=some (.slice A l.length c)
 at_:∀ j (hj:j < l.length),∃ g,A=some ⟨g,0,none⟩∧W.cell? ⟨g,j,none⟩=some (fv l[j])
theorem BackF.bk {bx:Nat} {A:Option Addr} {c:Nat} {l:List (Nat×Array Value)} {W W':World} {B:Nat} (h:BackF bx A c l W) (hb:Bk B W W'):BackF bx A c l W':=
 ⟨cell_bk hb h.box,fun j hj=>by
  obtain ⟨g,e,hc⟩:=h.at_ j hj
  exact ⟨g,e,cell_bk hb hc⟩⟩
def backfE (l:List (Nat×Array Value)):List (Array Value):=(List.range l.length).map fun j=>#[.int .i64 ((l.length:Int) - 1 - (j:Nat)),fv (l.getD (l.length - 1 - j) (0,#[]))]
theorem backfE_len (l:List (Nat×Array Value)):(backfE l).length=l.length:=by simp [backfE]
theorem backfE_at (l:List (Nat×Array Value)) {j:Nat} (hj:j < (backfE l).length):(backfE l)[j]=#[.int .i64 ((l.length:Int) - 1 - (j:Nat)),fv (l.getD (l.length - 1 - j) (0,#[]))]:=by simp [backfE]
theorem backf_iter {bx:Nat} {A:Option Addr} {c:Nat} {l:List (Nat×Array Value)} {W:World} (hl:l.length≤100000) (h:BackF bx A c l W) :
  IterL Tryz.prog 125 #[.pointer (some ⟨bx,0,none⟩)] (backfE l) (fun _=>Eq) (fun A' B=>BackF bx A c l A'→BackF bx A c l B) W:=by
 intro lp J Jx _ _ hY h0
 have HY:=Hd hY
 have HL:=Hd hl
 have c0:=h.box
 have HB:=Hd h
 clear hY hl h
 refine (callsIn_wide (n:=0)).1 (callsIn_of_wp Tryz.func125 rfl trivial ?_ rfl)
 simp only [Tryz.ntmps125,List.size_toArray,List.length_cons,List.length_nil,Nat.reduceAdd,Nat.reduceSub,Array.replicate_succ,Array.replicate_zero,List.push_toArray,List.append_toArray,List.nil_append,List.cons_append]
 have hlb:(l.length:Int)≤100000:=by have:=HL.out; omega
 gi_wp2_with (fail)
 gi_loopw [3] (fun x wr=>∃ j:Nat,j≤l.length∧x=.int .i64 ((l.length:Int) - 1 - (j:Nat))∧Hid (J j wr)∧Hid (BackF bx A c l wr)) (fun x _=>(intOf x + 1).toNat)
 case atStart=>exact ⟨0,Nat.zero_le _,by simp,h0,HB⟩
 case round=>
  obtain ⟨j,hj,rfl,HJ,HK⟩:=hrel
  by_cases hlt:j < l.length
  ·have hlt':j < (backfE l).length:=by rw [backfE_len]; exact hlt
   obtain ⟨fn,tmps,assign,body,hy,hR⟩:=HY.out j hlt' wr HJ.out
   rw [backfE_at] at hy
   obtain ⟨m,hm⟩:∃ m,l.length - 1 - j=m:=⟨_,rfl⟩
   have e:(l.length:Int) - 1 - (j:Nat)=(m:Nat):=by omega
   have hml:m < l.length:=by omega
   have e2:((m:Nat):Int) - 1=(l.length:Int) - 1 - ((j + 1:Nat):Int):=by omega
   obtain ⟨g,rA,k1⟩:=HK.out.at_ m hml
   rw [hm,List.getD_eq_getElem?_getD,List.getElem?_eq_getElem hml,Option.getD_some] at hy
   have cb:=HK.out.box
   subst rA
   rw [e] at hy ⊢
   generalize fv l[m]=x at *
   have hmb:((m:Nat):Int)≤100000:=by omega
   have HE2:=Hd e2
   have HM:=Hd hm
   have HR:=Hd hR
   clear e e2 hm hR
   gi_wp2_with (fail)
   refine ⟨rfl,HR.out.mono ?_⟩
   rintro e W3 ⟨-,(⟨rfl,hJ3,hk3⟩ | ⟨rfl,hJx3⟩)⟩
   ·have HB3:Hid (BackF bx (some ⟨g,0,none⟩) c l W3):=hk3 HK.out
    have HJ3:=Hd hJ3
    clear hJ3 hk3 HJ HK
    gi_wp2_with (fail)
    go_roundw
    case rel=>exact ⟨j + 1,by omega,by rw [← HE2.out],HJ3,HB3⟩
    case measure=>simp [intOf]
   ·have HJ3:=Hd hJx3
    clear hJx3 HJ HK
    gi_wp2_with (fail)
    refine bodyPost_ret (results_none rfl _ _ _) rfl ?_
    exact ⟨⟨_,rfl⟩,.inr ⟨j + 1,by rw [backfE_len]; omega,HJ3.out⟩⟩
  ·have e:(l.length:Int) - 1 - (j:Nat)=-1:=by omega
   obtain rfl:j=l.length:=by omega
   have HJ2:Hid (J (backfE l).length wr):=by rw [backfE_len]; exact HJ
   rw [e]
   clear e HJ HK
   gi_wp2_with (fail)
   go_end0
   exact ⟨⟨_,rfl⟩,.inl HJ2.out⟩
end Go.Proofs.YthpifjcddgmjnaaGreat
namespace Go.Proofs.YthpifjcddgmjnaaGreat
open Go.RowKit pxm imm trm Go.Maps itr Go.Shelf
theorem SOwn.row0 {α:Type} {T:TypeId} {k:Nat} {enc:α→List Value} {w:World} {base:Nat} {v:Value} {l:List α} (h:SOwn T k enc w base v l) (hk:∀ x,(enc x).length=k) (hl:0 < l.length):∃ g c,v=.slice (some ⟨g,0,none⟩) l.length c∧l.length≤c∧c≤maxLen∧SRow k enc w (some ⟨g,0,none⟩) l:=by
 rcases h.2 with ⟨rfl,h0⟩ | ⟨g,cap,cur,rfl,hg,hb,hc,hm,rest⟩
 ·omega
 ·refine ⟨g,cap,rfl,hc,hm,fun _=>⟨g,0,rfl,fun j hj i v hv=>?_⟩⟩
  have hcell:=World.ownsRow.cells h (g:=g) rfl
  have e:∀ i,(⟨g,0,none⟩:Addr).add i=⟨g,0 + i,none⟩:=fun i=>by unfold Addr.add; split <;> simp_all
  have:=hcell _ _ (flat_at hk hj hv)
  rw [e] at this
  rw [Nat.add_assoc]
  exact this
theorem allS_le (M:Int):∀ (l:List Op9) (x:PSc),(allS M x l).2.1≤l.length
 | [],_=>Nat.le_refl _
 | o :: l,x=>by
  rw [allS_cons]
  split
  ·exact Nat.zero_le _
  ·have:=allS_le M l (doS M x o).1
   simp only [List.length_cons]
   omega
section
variable {w w':World} {g b m:Nat} {s:Sh} {Z:ZZ} {x:PSc}
theorem SceneAt.kind (h:SceneAt w g b m s Z x) {k:Nat} (hk:SFoot b m s x.t k):∃ o,w.heap[k]?=some o∧isBk o=false:=by
 rcases hk with e | e | e | ⟨i,hi,e | e⟩
 ·obtain ⟨es,hm,_⟩:=h.map
  obtain ⟨es',clock,h4,_⟩:=hm.own
  rw [e]
  exact ⟨_,h4,rfl⟩
 ·rw [e]
  exact ⟨_,h.tree.raw.blk,rfl⟩
 ·obtain ⟨es,hm,_⟩:=h.tree.raw.map
  obtain ⟨es',clock,h4,_⟩:=hm.own
  rw [e]
  exact ⟨_,h4,rfl⟩
 ·rw [e]
  exact ⟨_,(h.tree.raw.node i hi).blk,rfl⟩
 ·obtain ⟨cur,fr',h4⟩:=(h.tree.raw.node i hi).own.typed e
  exact ⟨_,h4,rfl⟩
theorem Row.bk {B:Nat} {A:Option Addr} {l:List Nat} (h:Row eW w A l) (hb:Bk B w w'):Row eW w' A l:=fun hn=>by
 obtain ⟨k,off,e,hc⟩:=h hn
 exact ⟨k,off,e,fun j hj=>cell_bk hb (hc j hj)⟩
theorem NdOff.bk {B:Nat} {E S:Bset} {n:Nd} {A:Option Addr} (h:NdOff E S w n A) (hb:Bk B w w'):NdOff E S w' n A:=⟨Row.bk h.1 hb,h.2,h.3⟩
theorem SceneAt.bk {B:Nat} (h:SceneAt w g b m s Z x) (hb:Bk B w w'):SceneAt w' g b m s Z x:=by
 obtain ⟨es,hm,h1,h2⟩:=h.map
 have hin:∀ k,SFoot b m s x.t k→w'.heap[k]?=w.heap[k]?:=fun k hk=>by
  obtain ⟨o,ho,hn⟩:=h.kind hk
  exact (hb.keep ho hn).trans ho.symm
 refine ⟨h.blk.bk hb,h.tree.stays fun k hk=>hin k (.inr hk),⟨es,hm.stays (hin m (.inl rfl)),h1,fun i hi=>?_⟩,h.gfar,h.mfar,fun k hk=>⟨Nat.lt_of_lt_of_le (h.old k hk).1 hb.size,(h.old k hk).2⟩⟩
 obtain ⟨v,e,A,c,e2,hv⟩:=h2 i hi
 exact ⟨v,e,A,c,e2,hv.bk hb⟩
theorem TurnP.bk {B:Nat} {S S':Bset} {w0:World} (h:TurnP S S' w0 w) (hb:Bk B w w') (hB:w0.heap.size≤B):TurnP S S' w0 w':=
 ⟨hb.os.trans h.os,hb.tape.trans h.tape,hb.output.trans h.output,Nat.le_trans h.size hb.size,fun k hk hn=>⟨(h.far k hk hn).1,(hb.low (Nat.lt_of_lt_of_le hk h.size) (Nat.lt_of_lt_of_le hk hB)).trans (h.far k hk hn).2⟩⟩
theorem SceneAt.kb {S':Bset} (h:SceneAt w g b m s Z x) (ht:TurnP (SFoot b m s x.t) S' w w'):KB w w':=fun k o hk ho=>by
 refine ((ht.far k (Array.getElem?_eq_some_iff.1 hk).1 fun e=>?_).2).trans hk
 obtain ⟨o',ho',hn⟩:=h.kind e
 rw [hk] at ho'
 cases ho'
 rw [ho] at hn
 cases hn
def SetQ (g b m:Nat) (Z:ZZ) (s:Sh) (x:PSc) (r:PSc×Int) (w:World) (e:Ending) (w':World):Prop:=
 ∃ s',e=.returned (.int .i64 r.2)∧SceneAt w' g b m s' Z r.1∧TurnP (SFoot b m s x.t) (SFoot b m s' r.1.t) w w'
def applyS (M:Int) (st:PSc→PSc×Int) (x:PSc) (l:List Op9):PSc×Int×Int:=
 if 1024 < l.length then (x,0,12) else
  if (allS M x l).2.2≠0 then (x,((allS M x l).2.1:Nat),(allS M x l).2.2) else
   if (st (allS M x l).1).2≠0 then (x,((allS M x l).2.1:Nat),(st (allS M x l).1).2) else ((st (allS M x l).1).1,((allS M x l).2.1:Nat),0)
def ApplyQ (g b m:Nat) (Z:ZZ) (s:Sh) (x:PSc) (r:PSc×Int×Int) (w:World) (e:Ending) (w':World):Prop:=
 ∃ s',e=.returned (.tuple #[.int .i64 r.2.1,.int .i64 r.2.2])∧SceneAt w' g b m s' Z r.1∧TurnP (SFoot b m s x.t) (SFoot b m s' r.1.t) w w'
theorem BackF.turn {bx:Nat} {A:Option Addr} {c:Nat} {l:List (Nat×Array Value)} {S S':Bset} (h:BackF bx A c l w) (ht:TurnP S S' w w') (h1:¬ S bx) (h2:∀ a,A=some a→¬ S a.block):BackF bx A c l w':=by
 have hc:∀ (a:Addr) (v:Value),¬ S a.block→w.cell? a=some v→w'.cell? a=some v:=fun a v hn hv=>by
  have h3:=(ht.far a.block (World.block_lt_of_cell? w a hv) hn).2
  rw [← hv]
  exact World.cell?_of_block h3
 refine ⟨hc _ _ h1 h.box,fun j hj=>?_⟩
 obtain ⟨g,e,hv⟩:=h.at_ j hj
 exact ⟨g,e,hc ⟨g,j,none⟩ _ (h2 ⟨g,0,none⟩ e) hv⟩
end
end Go.Proofs.YthpifjcddgmjnaaGreat
namespace Go.Proofs.YthpifjcddgmjnaaGreat
open Go.RowKit pxm imm trm Go.Maps itr Go.Shelf
attribute [local go_sem] Oper.semAt_some
section
variable {w:World} {g b m:Nat} {s:Sh} {Z:ZZ} {x:PSc}
theorem apply_any (h:SceneAt w g b m s Z x) (l:List OpR) (A:Option Addr) (c:Nat) (ho:OpsAt (SFoot b m s x.t) w A l) (hok:∀ q∈l,OpOk q.o) (hfx:∀ i,Fit (x.nd i)) (hn:l.length≤1024→Room Z.2.2 x l.length) (hlen:l.length≤1000000) (st:PSc→PSc×Int)
  (hset:∀ (W:World) (s1:Sh) (E:Bset),l.length≤1024→(allS Z.2.2 x (l.map (·.o))).2.2=0→SceneAt W g b m s1 ⟨Z.1,Z.2,E⟩ (allS Z.2.2 x (l.map (·.o))).1→OpsAt (SFoot b m s1 (allS Z.2.2 x (l.map (·.o))).1.t) W A l →
   Calls Tryz.prog 73 #[.pointer (some ⟨g,0,none⟩),.slice A l.length c] W (SetQ g b m ⟨Z.1,Z.2,E⟩ s1 (allS Z.2.2 x (l.map (·.o))).1 (st (allS Z.2.2 x (l.map (·.o))).1) W))
  (hst:(st (allS Z.2.2 x (l.map (·.o))).1).2≠0→(st (allS Z.2.2 x (l.map (·.o))).1).1=(allS Z.2.2 x (l.map (·.o))).1) :
  Calls Tryz.prog 28 #[.pointer (some ⟨g,0,none⟩),.slice A l.length c] w (ApplyQ g b m Z s x (applyS Z.2.2 st x (l.map (·.o))) w):=by
 obtain ⟨R,hR⟩:∃ R,applyS Z.2.2 st x (l.map (·.o))=R:=⟨_,rfl⟩
 have HR:=Hd hR
 rw [hR]
 unfold applyS at HR
 clear hR
 rw [List.length_map] at HR
 by_cases hm:1024 < l.length
 ·have t1:decide ((1024:Int) < (l.length:Int))=true:=decide_eq_true (by omega)
  have t2:decide (1024 < l.length)=true:=decide_eq_true hm
  have HE:Hid (R=(x,0,12)):=by show _=_; rw [← HR.out,if_pos hm]
  have HS:=Hd h
  clear HR hset hst ho hok hfx hn h hm
  refine calls_of_marks Tryz.func28 rfl ?_
  simp only [Tryz.ntmps28,List.size_toArray,List.length_cons,List.length_nil,Nat.reduceAdd,Nat.reduceSub,Array.replicate_succ,Array.replicate_zero,List.push_toArray,List.append_toArray,List.nil_append,List.cons_append]
  go_wp2_with (fail)
  refine postM_ret w.heap.size trivial fun w' hb=>⟨_,results_tmp2 rfl _ _ _,?_⟩
  rw [HE.out]
  exact ⟨s,rfl,HS.out.bk hb,(TurnP.refl _ _).bk hb (Nat.le_refl _)⟩
 have hm1:l.length≤1024:=by omega
 have t1:decide ((1024:Int) < (l.length:Int))=false:=decide_eq_false (by omega)
 have t2:decide (1024 < l.length)=false:=decide_eq_false hm
 rw [if_neg hm] at HR
 have HC:=Hd (all_any h l A c ho hok hfx (hn hm1))
 unfold AllQ at HC
 obtain ⟨r,hr⟩:∃ r,allS Z.2.2 x (l.map (·.o))=r:=⟨_,rfl⟩
 have hll:r.2.1≤1024:=by rw [← hr]; have:=allS_le Z.2.2 (l.map (·.o)) x; rw [List.length_map] at this; omega
 rw [hr] at HC HR hset hst
 have HSET:=Hd (fun (W:World) (s1:Sh) (E:Bset)=>hset W s1 E hm1)
 have HST:=Hd hst
 have HO:=Hd ho
 have HS:=Hd h
 clear hset hst ho hok hfx hn h hm hm1 hr
 refine calls_of_marks Tryz.func28 rfl ?_
 simp only [Tryz.ntmps28,List.size_toArray,List.length_cons,List.length_nil,Nat.reduceAdd,Nat.reduceSub,Array.replicate_succ,Array.replicate_zero,List.push_toArray,List.append_toArray,List.nil_append,List.cons_append]
 go_wp2_with (fail)
 refine HC.out.mono ?_
 obtain ⟨y,nd,e0⟩:=r
 rintro e w1 ⟨U,uc,vs,s1,rfl,hvl,hown,hsc,ht,hch⟩
 simp only at hvl hsc ht hch
 subst hvl
 have HLL:Hid (vs.length≤1024):=hll
 clear hll
 have HU:=Hd hown
 have HY:=Hd hsc
 have HT:=Hd ht
 have HCH:=Hd hch
 clear hown hsc ht hch HC
 dsimp only at HR HSET HST ⊢
 go_upto_region 4 with (fail)
 go_cut [19] from 18 (fun u wx=>u=.bool (e0 == 0)∧wx=w1)
 case first=>
  go_wp2_with (fail)
  go_meet
  case rel=>exact ⟨rfl,rfl⟩
 case rest=>
 obtain ⟨rfl,rfl⟩:=hcut
 rename_i K1 hK1 K2 hK2
 refine hK2 _ _ ?_
 go_cut [5] from 20 (fun u wx=>∃ (e5:Int) (s2:Sh) (y2:PSc),u=.int .i64 e5∧Hid (SceneAt wx g b m s2 ⟨Z.1,Z.2,EO Z (.slice U vs.length uc)⟩ y2)∧Hid (TurnP (SFoot b m s x.t) (SFoot b m s2 y2.t) w wx)∧Hid (FnOwn wx w.heap.size (.slice U vs.length uc) vs)∧Hid (e5≠0→Chn g b m Z wx (Sor b m s2 y2.t (EO Z (.slice U vs.length uc))) vs.reverse y2 x)∧Hid (R=if e5≠0 then (x,((vs.length:Nat):Int),e5) else (y2,((vs.length:Nat):Int),0)))
 case first=>
  by_cases h0:e0=0
  ·subst h0
   have t3:((0:Int) == 0)=true:=rfl
   have HC2:=Hd (HSET.out wc s1 _ rfl HY.out (HO.out.turn HT.out))
   have HR2:Hid (R=if (st y).2≠0 then (x,((vs.length:Nat):Int),(st y).2) else ((st y).1,((vs.length:Nat):Int),0)):=by show _=_; rw [← HR.out,if_neg (by simp)]
   obtain ⟨⟨y2,e2⟩,hs2⟩:∃ q,st y=q:=⟨_,rfl⟩
   rw [hs2] at HC2 HR2 HST
   unfold SetQ at HC2
   clear HR HSET hs2
   dsimp only at HC2 HR2 HST
   go_wp2_with (fail)
   refine HC2.out.mono ?_
   rintro e w2 ⟨s2,rfl,hsc2,ht2⟩
   have HY2:=Hd hsc2
   have HT2:=Hd ht2
   clear hsc2 ht2 HC2
   go_wp2_with (fail)
   go_meet
   case rel=>
    refine ⟨e2,s2,y2,rfl,HY2.out,HT.out.trans HT2.out,HU.out.stays fun k hk=>(HT2.out.far k (HU.out.block hk).2 (HY.out.old k (.inr hk)).2.1).2,fun hne=>?_,HR2.out⟩
    have:=HCH.out.turn (HT2.out.sor (EO Z (.slice U vs.length uc)))
    rw [← HST.out hne] at this
    exact this
  ·have t3:(e0 == 0)=false:=by simpa using h0
   have HR2:Hid (R=if e0≠0 then (x,((vs.length:Nat):Int),e0) else (y,((vs.length:Nat):Int),0)):=by show _=_; rw [← HR.out,if_pos h0,if_pos h0]
   clear HR HSET HST h0
   go_wp2_with (fail)
   go_meet
   case rel=>exact ⟨e0,s1,y,rfl,HY.out,HT.out,HU.out,fun _=>HCH.out,HR2.out⟩
 case rest=>
  obtain ⟨e5,s2,y2,rfl,HY2,HT2,HU2,HCH2,HR2⟩:=hcut
  clear HY HT HU HCH HR HSET HST
  by_cases h5:e5=0
  ·subst h5
   have HE:Hid (R=(y2,((vs.length:Nat):Int),0)):=by show _=_; rw [HR2.out,if_neg (by simp)]
   clear HR2 HCH2
   go_wp2_with (fail)
   refine postM_ret w.heap.size trivial fun w' hb=>⟨_,results_tmp2 rfl _ _ _,?_⟩
   rw [HE.out]
   have hY:SceneAt wc g b m s2 Z y2:=HY2.out.part (E':=Z.3) (fun _ _ _=>rfl) fun k hk=>⟨(HY2.out.old k (.inl hk)).1,.inl (.inl hk)⟩
   exact ⟨s2,rfl,hY.bk hb,HT2.out.bk hb (Nat.le_refl _)⟩
  have t5:(e5 == 0)=false:=by simpa using h5
  have HE:Hid (R=(x,((vs.length:Nat):Int),e5)):=by show _=_; rw [HR2.out,if_pos h5]
  have HCH5:=Hd (HCH2.out h5)
  clear HR2 HCH2 h5
  go_wp2_with (fail)
  refine (backf_call U vs.length uc wc).mono ?_
  rintro e w3 ⟨rfl,hw3⟩
  have hb3:Below wc.heap.size wc w3:=by rw [hw3]; exact (Below.refl _ _).alloc (Nat.le_refl _) _
  have hx3:BlkT w3 wc.heap.size [.slice U vs.length uc] 164:=by rw [hw3]; exact BlkT.new wc _ _
  obtain ⟨bx,hbx⟩:∃ bx,wc.heap.size=bx:=⟨_,rfl⟩
  have hsz3:bx < w3.heap.size:=by rw [← hbx]; exact hx3.inside
  obtain ⟨E3,hE3⟩:∃ E3:Bset,E3=fun k=>EO Z (.slice U vs.length uc) k∨k=bx:=⟨_,rfl⟩
  have HE3:Hid (∀ k,EO Z (.slice U vs.length uc) k∨k=bx↔E3 k):=fun k=>by rw [hE3]
  have HY3:Hid (SceneAt w3 g b m s2 ⟨Z.1,Z.2,E3⟩ y2):=HY2.out.part (fun k h1 _=>hb3.block k h1) fun k hk=>by
   rcases (HE3.out k).2 hk with e | e
   ·exact ⟨Nat.lt_of_lt_of_le (HY2.out.old k e).1 hb3.size,.inl e⟩
   ·rw [e]; exact ⟨hsz3,.inr (by omega)⟩
  have HCH3:Hid (Chn g b m Z w3 (Sor b m s2 y2.t E3) vs.reverse y2 x):=HCH5.out.part hb3.size (fun k h1 _=>hb3.block k h1) fun k hk=>by
   rcases (HE3.out k).2 hk with e | e
   ·exact .inl e
   ·exact .inr (by omega)
  have HU3:Hid (FnOwn w3 w.heap.size (.slice U vs.length uc) vs):=HU2.out.below hb3
  have HBF:Hid (BackF bx U uc vs w3):=by
   rw [← hbx]
   refine ⟨hx3.blk.cell 0,fun j hj=>?_⟩
   obtain ⟨g9,c9,e9,-,-,hrow⟩:=SOwn.row0 HU3.out fcs_len (by omega)
   injection e9 with e9 _ _
   obtain ⟨b9,o9,e8,hc⟩:=hrow (by omega)
   injection e8 with e8
   injection e8 with e8 e7
   refine ⟨g9,e9,?_⟩
   have:=hc j hj 0 (fv vs[j]) rfl
   rw [← e8,← e7] at this
   simpa using this
  have HT3:Hid (TurnP (SFoot b m s x.t) (SFoot b m s2 y2.t) w w3):=HT2.out.trans (TurnP.below hb3)
  have HNB:Hid (∀ a,U=some a→E3 a.block):=fun a ea=>(HE3.out _).1 (.inl (.inr (by rw [ea]; rfl)))
  have HEB:Hid (E3 bx):=(HE3.out _).1 (.inr rfl)
  have HEZ:Hid (∀ k,Z.3 k→E3 k):=fun k hk=>(HE3.out _).1 (.inl (.inl hk))
  have HLE:Hid (vs.length≤100000):=by have:=HLL.out; show _≤_; omega
  rw [hbx]
  clear hw3 hb3 hx3 hbx hsz3 hE3 HE3 HY2 HCH5 HU2 HT2
  go_wp2_with (fail)
  refine wp_range (gf:=125) (lb:=#[.pointer (some ⟨bx,0,none⟩)]) rfl (enters_of Tryz.func125 (by kernel_rfl) rfl) (es:=backfE vs) (R:=fun _=>Eq) (Kp:=fun A B=>BackF bx U uc vs A→BackF bx U uc vs B)
   (fun W1 hb=>backf_iter HLE.out (HBF.out.bk hb)) (fun h k x=>k (h x)) (fun A B hb h=>h.bk hb) (fun n A B e k o _ hk _=>e ▸ hk)
   (fun e he=>by obtain ⟨j,_,rfl⟩:=List.mem_map.1 he; rfl)
   (fun k W=>∃ s4 y4,SceneAt W g b m s4 ⟨Z.1,Z.2,E3⟩ y4∧TurnP (SFoot b m s2 y2.t) (SFoot b m s4 y4.t) w3 W∧Chn g b m Z w3 (Sor b m s2 y2.t E3) (vs.reverse.drop k) y4 x)
   (fun _ _ _=>False) (fun k A B h hr=>?hI) (fun _ _ _ _ h _=>h.elim) ⟨s2,y2,HY3.out,TurnP.refl _ _,by rw [List.drop_zero]; exact HCH3.out⟩ ?a1 ?assign ?body ?done (fun _ _ _ _ _ _ h _=>h.elim)
  case hI=>
   obtain ⟨s4,y4,h1,h2,h3⟩:=h
   rcases hr with ⟨n,hn,rfl⟩ | hb
   ·exact ⟨s4,y4,h1,h2,h3⟩
   ·exact ⟨s4,y4,h1.bk hb,h2.bk hb (Nat.le_refl _),h3⟩
  case assign=>
   intro l j hj W9 KK hKK
   rw [backfE_at]
   gi_wp2_with (fail)
   exact hKK
  case body=>
   rintro l j hj W9 ⟨s4,y4,h1,h2,h3⟩
   rw [backfE_len] at hj
   have hd:vs.reverse.drop j=vs[vs.length - 1 - j]?.getD (0,#[]) :: vs.reverse.drop (j + 1):=by
    rw [List.drop_eq_getElem_cons (by simpa using hj),List.getElem_reverse,List.getElem?_eq_getElem (by omega)]
    rfl
   rw [hd] at h3
   clear hd
   obtain ⟨q,hq⟩:∃ q,vs[vs.length - 1 - j]?.getD (0,#[])=q:=⟨_,rfl⟩
   rw [hq] at h3 ⊢
   clear hq
   obtain ⟨y5,⟨K,f,cs,e,hen,hK,hcl⟩,h4⟩:=h3
   have HCL:=Hd (hcl W9 s4 E3 (fun k hk=>by
    have h5:=h2.far k (hK k hk).1 fun e=>(hK k hk).2 (.inl e)
    exact ⟨h5.2,h5.1,fun e=>(hK k hk).2 (.inr e)⟩) h1)
   have HS4:=Hd h1
   have HT4:=Hd h2
   have HC4:=Hd h4
   rw [show fv q=.func (.func f) #[] cs from e]
   have hen2:=hen
   unfold Enters at hen2
   clear e hen hK hcl h1 h2 h4
   gi_wp2_with (fail)
   refine ⟨trivial,rfl,CallsIn.inRound l ((callsIn_wide (n:=0)).2 (HCL.out.mono ?_))⟩
   rintro e2 W7 ⟨⟨rv,rfl⟩,s6,h6,h7⟩
   have HS6:=Hd h6
   have HT6:=Hd h7
   clear h6 h7
   gi_wp2_with (fail)
   exact ⟨HS4.out.kb HT6.out,fun hB=>hB.turn HT6.out (HS4.out.old _ HEB.out).2.1 fun a ea=>(HS4.out.old _ (HNB.out a ea)).2.1,s6,y5,HS6.out,HT4.out.trans HT6.out,HC4.out⟩
  case done=>
   rintro D W9 hD ⟨s4,y4,h1,h2,h3⟩ hd
   rw [backfE_len,List.drop_of_length_le (by simp)] at h3
   obtain rfl:y4=x:=h3
   have HS4:=Hd h1
   have HT4:=Hd h2
   clear h1 h2
   go_wp2_with (fail)
   refine postM_ret w3.heap.size ⟨⟨D,rfl,hD,hd,by simp⟩,trivial⟩ fun w' hb=>⟨_,results_tmp2 rfl _ _ _,?_⟩
   rw [HE.out]
   have hY:SceneAt W9 g b m s4 Z y4:=HS4.out.part (E':=Z.3) (fun _ _ _=>rfl) fun k hk=>⟨(HS4.out.old k (HEZ.out k hk)).1,.inl (HEZ.out k hk)⟩
   exact ⟨s4,rfl,hY.bk hb,(HT3.out.trans HT4.out).bk hb HT3.out.size⟩
end
end Go.Proofs.YthpifjcddgmjnaaGreat
namespace Go.Proofs.YthpifjcddgmjnaaGreat
open Go.RowKit pxm imm trm Go.Maps
section
variable {w w':World} {g b m:Nat} {s:Sh} {Z:ZZ} {x:PSc}
theorem SceneAt.look_ok (h:SceneAt w g b m s Z x) {i:Int} (hi:I64 i):∃ A c,∀ W,Below w.heap.size w W→(Instr.lookup tPlaces (.map (some m)) (.int .i64 i) true).run Tryz.prog W=.ok (.tuple #[.agg (plcs (ndAt x i) A c (wsAt x i)).toArray,.bool (has x.t i)]) W∧NdOff Z.3 (SFoot b m s x.t) W (ndAt x i) A:=by
 by_cases hh:has x.t i=true
 ·obtain ⟨A,c,hl⟩:=h.look_b hi hh
  have e1:ndAt x i=x.nd i:=if_pos hh
  have e2:wsAt x i=x.ws i:=if_pos hh
  rw [e1,e2,hh]
  exact ⟨A,c,fun W hb=>⟨(hl W hb).2.1,(hl W hb).2.2⟩⟩
 ·have e1:ndAt x i=Nd.zero:=if_neg hh
  have e2:wsAt x i=Mp.o:=if_neg hh
  rw [e1,e2,show has x.t i=false from by simpa using hh]
  exact ⟨none,0,fun W hb=>⟨((h.below hb).look_none hi hh).2,row_none rfl _,fun a e=>(nomatch e),fun a e=>(nomatch e)⟩⟩
theorem world_any (h:SceneAt w g b m s Z x) (i:Int) (hi:I64 i) :
  Calls Tryz.prog 54 #[.pointer (some ⟨g,0,none⟩),.int .i64 i] w fun e w'=>e=.returned (.tuple #[.agg (wsAt x i).cs.toArray,.bool (has x.t i)])∧Below w.heap.size w w':=by
 have hb0:Below w.heap.size w (w.alloc (.cells #[.int .i64 0,.int .i64 0,.int .i64 0,.int .i64 0,.int .i64 0,.int .i64 0] 68)):=(Below.refl _ _).alloc (Nat.le_refl _) _
 have HB0:=Hd hb0
 have HZ0:Hid (Blk (w.alloc (.cells #[.int .i64 0,.int .i64 0,.int .i64 0,.int .i64 0,.int .i64 0,.int .i64 0] 68)) w.heap.size [.int .i64 0,.int .i64 0,.int .i64 0,.int .i64 0,.int .i64 0,.int .i64 0]):=blk_new w [.int .i64 0,.int .i64 0,.int .i64 0,.int .i64 0,.int .i64 0,.int .i64 0] _
 have HS0:Hid (SceneAt (w.alloc (.cells #[.int .i64 0,.int .i64 0,.int .i64 0,.int .i64 0,.int .i64 0,.int .i64 0] 68)) g b m s Z x):=h.below hb0
 obtain ⟨A,c,hl⟩:=h.look_ok hi
 have HL:=Hd hl
 have HSI:Hid (∀ k,SFoot b m s x.t k→k < w.heap.size):=h.inside
 have HOE:Hid (∀ k,Z.3 k→k < w.heap.size):=fun k hk=>(h.old k hk).1
 have HSZ:Hid ((w.alloc (.cells #[.int .i64 0,.int .i64 0,.int .i64 0,.int .i64 0,.int .i64 0,.int .i64 0] 68)).heap.size=w.heap.size + 1):=by show _=_; simp
 obtain ⟨hh,hhe⟩:∃ hh,has x.t i=hh:=⟨_,rfl⟩
 rw [hhe] at HL ⊢
 obtain ⟨n,hn⟩:∃ n,ndAt x i=n:=⟨_,rfl⟩
 obtain ⟨u,hu⟩:∃ u,wsAt x i=u:=⟨_,rfl⟩
 rw [hn,hu] at HL
 rw [hu]
 clear hb0 hl h hhe hn hu
 go_enter Tryz.func54,Tryz.ntmps54
 go_upto_region 1 with (fail)
 generalize (w.alloc (.cells #[.int .i64 0,.int .i64 0,.int .i64 0,.int .i64 0,.int .i64 0,.int .i64 0] 68))=w0 at *
 obtain ⟨⟨-,-,-,-,-,c5⟩,i0⟩:=HS0.out.top
 have hlk:=(HL.out w0 HB0.out).1
 have HZ2:Hid (Blk (w0.alloc (.cells #[.int .i64 0,.int .i64 0,.int .i64 0,.int .i64 0,.int .i64 0,.int .i64 0,.int .i64 0,.bool false,.bool false,.int .i64 0,.int .i64 0,.int .i64 0,.int .i64 0,.int .i64 0,.int .i64 0,.int .i64 0,.int .u32 0,.int .i64 0,.int .i64 0,.slice none 0 0,.int .i64 0,.int .i64 0,.int .i64 0,.int .i64 0,.int .i64 0,.int .i64 0] 143)) w0.heap.size [.int .i64 0,.int .i64 0,.int .i64 0,.int .i64 0,.int .i64 0,.int .i64 0,.int .i64 0,.bool false,.bool false,.int .i64 0,.int .i64 0,.int .i64 0,.int .i64 0,.int .i64 0,.int .i64 0,.int .i64 0,.int .u32 0,.int .i64 0,.int .i64 0,.slice none 0 0,.int .i64 0,.int .i64 0,.int .i64 0,.int .i64 0,.int .i64 0,.int .i64 0]):=blk_new w0 [.int .i64 0,.int .i64 0,.int .i64 0,.int .i64 0,.int .i64 0,.int .i64 0,.int .i64 0,.bool false,.bool false,.int .i64 0,.int .i64 0,.int .i64 0,.int .i64 0,.int .i64 0,.int .i64 0,.int .i64 0,.int .u32 0,.int .i64 0,.int .i64 0,.slice none 0 0,.int .i64 0,.int .i64 0,.int .i64 0,.int .i64 0,.int .i64 0,.int .i64 0] _
 have HBa:Hid (Below w0.heap.size w0 (w0.alloc (.cells #[.int .i64 0,.int .i64 0,.int .i64 0,.int .i64 0,.int .i64 0,.int .i64 0,.int .i64 0,.bool false,.bool false,.int .i64 0,.int .i64 0,.int .i64 0,.int .i64 0,.int .i64 0,.int .i64 0,.int .i64 0,.int .u32 0,.int .i64 0,.int .i64 0,.slice none 0 0,.int .i64 0,.int .i64 0,.int .i64 0,.int .i64 0,.int .i64 0,.int .i64 0] 143))):=(Below.refl _ _).alloc (Nat.le_refl _) _
 go_upto_region 2 with (first | (with_reducible show wpList _ _ _ (Oper.mk _ (Op.store _ _ _) _ _ _ _ :: _) _ _; first | (refine wpl_stow 143 _ _ rfl rfl rfl _ 0 rfl (plcs n A c u) rfl ([.int .i64 0,.int .i64 0,.int .i64 0,.int .i64 0,.int .i64 0,.int .i64 0,.int .i64 0,.bool false,.bool false,.int .i64 0,.int .i64 0,.int .i64 0,.int .i64 0,.int .i64 0,.int .i64 0,.int .i64 0,.int .u32 0,.int .i64 0,.int .i64 0,.slice none 0 0,.int .i64 0,.int .i64 0,.int .i64 0,.int .i64 0,.int .i64 0,.int .i64 0]) HZ2.out (plcs n A c u) rfl (Nat.le_of_ble_eq_true rfl) (by kernel_rfl) (plcs_one _ _ _ _) ?_; intro w3 HW3 HK3)))
 have HB3:Hid (Below w0.heap.size w0 w3):=HW3.out.below HBa.out (Nat.le_refl _)
 have HZ3:Hid (Blk w3 w.heap.size [.int .i64 0,.int .i64 0,.int .i64 0,.int .i64 0,.int .i64 0,.int .i64 0]):=HZ0.out.below' HB3.out
 have HN0:=Hd (HL.out w3 (HB0.out.trans (HB3.out.mono HB0.out.size))).2
 clear hlk HL c5 i0 HZ2 HBa HW3 HZ0
 have HNE:Hid (w.heap.size≠w0.heap.size):=by show _≠_; have:=HSZ.out; omega
 go_wp2_with (first | (with_reducible show wpList _ _ _ (Oper.mk _ (Op.load _ _) _ _ _ _ :: _) _ _; first | (refine wpl_take 68 _ rfl rfl _ 20 rfl (plcs n A c u) HK3.out (u.cs) rfl _ Tryz.underlying68 rfl (by kernel_rfl) ?_)) | (with_reducible show wpList _ _ _ (Oper.mk _ (Op.store _ _ _) _ _ _ _ :: _) _ _; first | (refine wpl_stow 68 _ _ rfl rfl rfl _ 0 rfl (u.cs) rfl ([.int .i64 0,.int .i64 0,.int .i64 0,.int .i64 0,.int .i64 0,.int .i64 0]) HZ3.out (u.cs) rfl (Nat.le_of_ble_eq_true rfl) (by kernel_rfl) (Mp.one1 _) ?_; intro w4 HW4 HK4)))
 exact blk_ret2 rfl rfl rfl HK4.out Tryz.underlying68 rfl (by kernel_rfl) ⟨rfl,HW4.out.below (HB0.out.trans (HB3.out.mono HB0.out.size)) (Nat.le_refl _)⟩
theorem node_any (h:SceneAt w g b m s Z x) (hfx:∀ j,Fit (x.nd j)) (i:Int) (hi:I64 i) :
  Calls Tryz.prog 29 #[.pointer (some ⟨g,0,none⟩),.int .i64 i] w fun e w'=>∃ A c,e=.returned (.tuple #[.agg ((ndAt x i).cs A c).toArray,.bool (has x.t i)])∧Below w.heap.size w w'∧NdOff Z.3 (SFoot b m s x.t) w' (ndAt x i) A∧∀ a,A=some a→(ndAt x i).lk.l≠[]→w.heap.size≤a.block∧∀ j,w'.frozen? ⟨a.block,j,none⟩=false:=by
 have HFN:Hid ((ndAt x i).lk.l.length≤300):=by
  show _≤_
  unfold ndAt
  split
  ·exact (hfx i).len
  ·exact Nat.zero_le _
 clear hfx
 have hb0:Below w.heap.size w (w.alloc (.cells #[.int .i64 0,.int .i64 0,.int .i64 0,.int .i64 0,.int .i64 0,.int .i64 0,.int .i64 0,.bool false,.bool false,.int .i64 0,.int .i64 0,.int .i64 0,.int .i64 0,.int .i64 0,.int .i64 0,.int .i64 0,.int .u32 0,.int .i64 0,.int .i64 0,.slice none 0 0] 72)):=(Below.refl _ _).alloc (Nat.le_refl _) _
 have HB0:=Hd hb0
 have HZ0:Hid (Blk (w.alloc (.cells #[.int .i64 0,.int .i64 0,.int .i64 0,.int .i64 0,.int .i64 0,.int .i64 0,.int .i64 0,.bool false,.bool false,.int .i64 0,.int .i64 0,.int .i64 0,.int .i64 0,.int .i64 0,.int .i64 0,.int .i64 0,.int .u32 0,.int .i64 0,.int .i64 0,.slice none 0 0] 72)) w.heap.size [.int .i64 0,.int .i64 0,.int .i64 0,.int .i64 0,.int .i64 0,.int .i64 0,.int .i64 0,.bool false,.bool false,.int .i64 0,.int .i64 0,.int .i64 0,.int .i64 0,.int .i64 0,.int .i64 0,.int .i64 0,.int .u32 0,.int .i64 0,.int .i64 0,.slice none 0 0]):=blk_new w [.int .i64 0,.int .i64 0,.int .i64 0,.int .i64 0,.int .i64 0,.int .i64 0,.int .i64 0,.bool false,.bool false,.int .i64 0,.int .i64 0,.int .i64 0,.int .i64 0,.int .i64 0,.int .i64 0,.int .i64 0,.int .u32 0,.int .i64 0,.int .i64 0,.slice none 0 0] _
 have HS0:Hid (SceneAt (w.alloc (.cells #[.int .i64 0,.int .i64 0,.int .i64 0,.int .i64 0,.int .i64 0,.int .i64 0,.int .i64 0,.bool false,.bool false,.int .i64 0,.int .i64 0,.int .i64 0,.int .i64 0,.int .i64 0,.int .i64 0,.int .i64 0,.int .u32 0,.int .i64 0,.int .i64 0,.slice none 0 0] 72)) g b m s Z x):=h.below hb0
 obtain ⟨A,c,hl⟩:=h.look_ok hi
 have HL:=Hd hl
 have HSI:Hid (∀ k,SFoot b m s x.t k→k < w.heap.size):=h.inside
 have HOE:Hid (∀ k,Z.3 k→k < w.heap.size):=fun k hk=>(h.old k hk).1
 have HSZ:Hid ((w.alloc (.cells #[.int .i64 0,.int .i64 0,.int .i64 0,.int .i64 0,.int .i64 0,.int .i64 0,.int .i64 0,.bool false,.bool false,.int .i64 0,.int .i64 0,.int .i64 0,.int .i64 0,.int .i64 0,.int .i64 0,.int .i64 0,.int .u32 0,.int .i64 0,.int .i64 0,.slice none 0 0] 72)).heap.size=w.heap.size + 1):=by show _=_; simp
 obtain ⟨hh,hhe⟩:∃ hh,has x.t i=hh:=⟨_,rfl⟩
 rw [hhe] at HL ⊢
 obtain ⟨n,hn⟩:∃ n,ndAt x i=n:=⟨_,rfl⟩
 obtain ⟨u,hu⟩:∃ u,wsAt x i=u:=⟨_,rfl⟩
 rw [hn,hu] at HL
 rw [hn] at HFN ⊢
 clear hb0 hl h hhe hn hu
 go_enter Tryz.func29,Tryz.ntmps29
 go_upto_region 1 with (fail)
 generalize (w.alloc (.cells #[.int .i64 0,.int .i64 0,.int .i64 0,.int .i64 0,.int .i64 0,.int .i64 0,.int .i64 0,.bool false,.bool false,.int .i64 0,.int .i64 0,.int .i64 0,.int .i64 0,.int .i64 0,.int .i64 0,.int .i64 0,.int .u32 0,.int .i64 0,.int .i64 0,.slice none 0 0] 72))=w0 at *
 obtain ⟨⟨-,-,-,-,-,c5⟩,i0⟩:=HS0.out.top
 have hlk:=(HL.out w0 HB0.out).1
 have HZ2:Hid (Blk (w0.alloc (.cells #[.int .i64 0,.int .i64 0,.int .i64 0,.int .i64 0,.int .i64 0,.int .i64 0,.int .i64 0,.bool false,.bool false,.int .i64 0,.int .i64 0,.int .i64 0,.int .i64 0,.int .i64 0,.int .i64 0,.int .i64 0,.int .u32 0,.int .i64 0,.int .i64 0,.slice none 0 0,.int .i64 0,.int .i64 0,.int .i64 0,.int .i64 0,.int .i64 0,.int .i64 0] 143)) w0.heap.size [.int .i64 0,.int .i64 0,.int .i64 0,.int .i64 0,.int .i64 0,.int .i64 0,.int .i64 0,.bool false,.bool false,.int .i64 0,.int .i64 0,.int .i64 0,.int .i64 0,.int .i64 0,.int .i64 0,.int .i64 0,.int .u32 0,.int .i64 0,.int .i64 0,.slice none 0 0,.int .i64 0,.int .i64 0,.int .i64 0,.int .i64 0,.int .i64 0,.int .i64 0]):=blk_new w0 [.int .i64 0,.int .i64 0,.int .i64 0,.int .i64 0,.int .i64 0,.int .i64 0,.int .i64 0,.bool false,.bool false,.int .i64 0,.int .i64 0,.int .i64 0,.int .i64 0,.int .i64 0,.int .i64 0,.int .i64 0,.int .u32 0,.int .i64 0,.int .i64 0,.slice none 0 0,.int .i64 0,.int .i64 0,.int .i64 0,.int .i64 0,.int .i64 0,.int .i64 0] _
 have HBa:Hid (Below w0.heap.size w0 (w0.alloc (.cells #[.int .i64 0,.int .i64 0,.int .i64 0,.int .i64 0,.int .i64 0,.int .i64 0,.int .i64 0,.bool false,.bool false,.int .i64 0,.int .i64 0,.int .i64 0,.int .i64 0,.int .i64 0,.int .i64 0,.int .i64 0,.int .u32 0,.int .i64 0,.int .i64 0,.slice none 0 0,.int .i64 0,.int .i64 0,.int .i64 0,.int .i64 0,.int .i64 0,.int .i64 0] 143))):=(Below.refl _ _).alloc (Nat.le_refl _) _
 go_upto_region 2 with (first | (with_reducible show wpList _ _ _ (Oper.mk _ (Op.store _ _ _) _ _ _ _ :: _) _ _; first | (refine wpl_stow 143 _ _ rfl rfl rfl _ 0 rfl (plcs n A c u) rfl ([.int .i64 0,.int .i64 0,.int .i64 0,.int .i64 0,.int .i64 0,.int .i64 0,.int .i64 0,.bool false,.bool false,.int .i64 0,.int .i64 0,.int .i64 0,.int .i64 0,.int .i64 0,.int .i64 0,.int .i64 0,.int .u32 0,.int .i64 0,.int .i64 0,.slice none 0 0,.int .i64 0,.int .i64 0,.int .i64 0,.int .i64 0,.int .i64 0,.int .i64 0]) HZ2.out (plcs n A c u) rfl (Nat.le_of_ble_eq_true rfl) (by kernel_rfl) (plcs_one _ _ _ _) ?_; intro w3 HW3 HK3)))
 have HB3:Hid (Below w0.heap.size w0 w3):=HW3.out.below HBa.out (Nat.le_refl _)
 have HZ3:Hid (Blk w3 w.heap.size [.int .i64 0,.int .i64 0,.int .i64 0,.int .i64 0,.int .i64 0,.int .i64 0,.int .i64 0,.bool false,.bool false,.int .i64 0,.int .i64 0,.int .i64 0,.int .i64 0,.int .i64 0,.int .i64 0,.int .i64 0,.int .u32 0,.int .i64 0,.int .i64 0,.slice none 0 0]):=HZ0.out.below' HB3.out
 have HN0:=Hd (HL.out w3 (HB0.out.trans (HB3.out.mono HB0.out.size))).2
 clear hlk HL c5 i0 HZ2 HBa HW3 HZ0
 have HCP:=Hd (copy_nd n A c (by have:=HFN.out; omega) w3 HN0.out.1 Z.3 (SFoot b m s x.t) (fun k hk=>by have:=HOE.out k hk; have:=HB0.out.size; have:=HB3.out.size; omega) (fun k hk=>by have:=HSI.out k hk; have:=HB0.out.size; have:=HB3.out.size; omega))
 unfold CopyN at HCP
 go_wp2_with (first | (with_reducible show wpList _ _ _ (Oper.mk _ (Op.load _ _) _ _ _ _ :: _) _ _; first | (refine wpl_take 72 _ rfl rfl _ 0 rfl (plcs n A c u) HK3.out (n.cs A c) rfl _ Tryz.underlying72 rfl (by kernel_rfl) ?_)))
 refine HCP.out.mono ?_
 rintro e w4 ⟨A4,c4,rfl,hn4,hb4,hg4⟩
 have HZ4:=Hd (HZ3.out.below' hb4)
 have HB4:=Hd hb4
 have HN4:=Hd (And.intro hn4 hg4)
 clear hn4 hb4 hg4 HCP HZ3
 go_wp2_with (first | (with_reducible show wpList _ _ _ (Oper.mk _ (Op.store _ _ _) _ _ _ _ :: _) _ _; first | (refine wpl_stow 72 _ _ rfl rfl rfl _ 0 rfl (n.cs A4 c4) rfl ([.int .i64 0,.int .i64 0,.int .i64 0,.int .i64 0,.int .i64 0,.int .i64 0,.int .i64 0,.bool false,.bool false,.int .i64 0,.int .i64 0,.int .i64 0,.int .i64 0,.int .i64 0,.int .i64 0,.int .i64 0,.int .u32 0,.int .i64 0,.int .i64 0,.slice none 0 0]) HZ4.out (n.cs A4 c4) rfl (Nat.le_of_ble_eq_true rfl) (by kernel_rfl) (Nd.one _ _ _) ?_; intro w5 HW5 HK5)))
 have hlow:w.heap.size < w3.heap.size:=by have:=HSZ.out; have:=HB3.out.size; omega
 have hfar:∀ a,A4=some a→n.lk.l≠[]→a.block≠w.heap.size:=fun a ea hne e=>by have:=HN4.out.2 a ea hne; omega
 exact blk_ret2 rfl rfl rfl HK5.out Tryz.underlying72 rfl (by kernel_rfl) ⟨A4,c4,rfl,HW5.out.below ((HB0.out.trans (HB3.out.mono HB0.out.size)).trans (HB4.out.mono (by omega))) (Nat.le_refl _),⟨Row.stays HN4.out.1.1 fun a ea hne=>HW5.out.far (hfar a ea hne),HN4.out.1.2,HN4.out.1.3⟩,fun a ea hne=>⟨by have:=HN4.out.2 a ea hne; omega,fun j=>(World.frozen?_of_block (a:=⟨a.block,j,none⟩) (HW5.out.far (hfar a ea hne))).trans ((HN4.out.2 a ea hne).2 j)⟩⟩
theorem ssize_any (h:SceneAt w g b m s Z x) :
  Calls Tryz.prog 62 #[.pointer (some ⟨g,0,none⟩)] w fun e w'=>e=.returned (.tuple #[.int .i64 Z.1,.int .i64 Z.2.1,.int .i64 Z.2.2])∧Below w.heap.size w w':=by
 obtain ⟨⟨-,-,c2,c3,c4,-⟩,i0⟩:=h.top
 clear h
 go_enter Tryz.func62,Tryz.ntmps62
 go_wp2_with (fail)
 go_quiet (fail)
 go_wp2_with (fail)
 go_ret3
 exact ⟨rfl,Below.drewN' (Below.refl _ _) _⟩
end
end Go.Proofs.YthpifjcddgmjnaaGreat
