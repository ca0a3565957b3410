import Derived.Test.YthoildbfghfhpaaGreatQDce
set_option maxHeartbeats 16000000
set_option maxRecDepth 100000
namespace Go.Proofs.YthoildbfghfhpaaGreat
section
open Go.RowKit pxm imm trm Go.Maps
def isBox (o:Obj):Prop:=∃ cs fz,o=.cells cs tDoc fz∧noPx cs.toList
structure DR (B:Nat) (w w':World):Prop where
 bel:Below B w w'
 same:∀ (k:Nat) (o:Obj),w.heap[k]?=some o->¬ isBox o->w'.heap[k]?=some o
theorem DR.refl (B:Nat) (w:World):DR B w w:=⟨bR,fun _ _ h _=>h⟩
theorem DR.trans {B:Nat} {w w1 w2:World} (h:DR B w w1) (k:DR B w1 w2):DR B w w2:=⟨h.bel.trans k.bel,fun j o h1 h2=>k.same j o (h.same j o h1 h2) h2⟩
theorem DR.below {B:Nat} {w w':World} (hb:Below w.heap.size w w') (hB:B<=w.heap.size):DR B w w':=⟨hb.mono hB,fun k _ h _=>(hb.block k (Array.getElem?_eq_some_iff.1 h).1).trans h⟩
theorem DR.wrote {B g:Nat} {w w':World} {cs:List Value} (hb:BlkT w g cs tDoc) (hc:noPx cs) (hW:Wrote g w w') (hB:B<=g):DR B w w':=⟨hW.below bR hB,fun k o h hn=>by
 by_cases e:k=g
 ·refine absurd ⟨cs.toArray,(0,0),?_,by simpa using hc⟩ hn;rw [e] at h;exact Option.some.inj (h.symm.trans hb)
 ·exact (hW.far e).trans h⟩
theorem BlkT.wrote {w w':World} {g:Nat} {cs cs':List Value} {T:TypeId} (h:BlkT w g cs T) (hW:Wrote g w w') (hB:Blk w' g cs'):BlkT w' g cs' T:=by
 obtain ⟨o,l,rfl⟩:=hW
 have:∀ (l:List Value) (o:Nat) {w:World} {cs:List Value},BlkT w g cs T->∃ c2,BlkT (putBlk g w o l) g c2 T:=by
  intro l
  induction l with
  | nil=>exact fun _ _ cs h=>⟨cs,h⟩
  | cons v l ih=>exact fun o _ _ h=>ih (o+1) (h.set o v)
 obtain ⟨c2,h2⟩:=this l o h;obtain ⟨T',h3⟩:=hB;have e:=h2.symm.trans h3;simp only [Option.some.injEq,Obj.cells.injEq] at e;have e1:c2=cs':=by have:=congrArg Array.toList e.1;simpa using this
 rw [← e1];exact h2
structure VJ (B:Nat) (iA iS:Bool) (vA vC:Value) (w:World):Prop where
 bsz:B<=w.heap.size
 ex:iA=true->∃ g cs,vA=.pointer (some ⟨g,0,none⟩)∧B<=g∧BlkT w g cs tDoc∧noPx cs∧cs.length=5∧(iS=true->vC=.agg cs.toArray)
section
variable {B:Nat} {iA iS:Bool} {vA vC:Value} {w w':World}
theorem VJ.start (h:B<=w.heap.size):VJ B false iS vA vC w:=⟨h,fun e=>nomatch e⟩
theorem VJ.slots {uA uC:Value} (h:VJ B iA iS vA vC w) (e1:uA=vA) (e2:uC=vC):VJ B iA iS uA uC w:=by rw [e1,e2];exact h
theorem VJ.below (h:VJ B iA iS vA vC w) (hb:Below w.heap.size w w'):VJ B iA iS vA vC w':=⟨Nat.le_trans h.bsz hb.size,fun e=>by
 obtain ⟨g,cs,h1,h2,h3,h4⟩:=h.ex e
 exact ⟨g,cs,h1,h2,h3.stays (hb.block _ h3.inside),h4⟩⟩
theorem VJ.made {uA uC:Value} (h:VJ B iA iS vA vC w) (eS:iS=false) (e1:uA=.pointer (some ⟨w.heap.size,0,none⟩)):VJ B true iS uA uC (w.alloc (.cells #[.int .i64 0,.int .i64 0,.int .i64 0,.slice none 0 0,.map none] tDoc)):=
 ⟨Nat.le_trans h.bsz (by simp),fun _=>⟨w.heap.size,_,e1,h.bsz,BlkT.new w [.int .i64 0,.int .i64 0,.int .i64 0,.slice none 0 0,.map none] tDoc,by unfold noPx;simp,rfl,fun e=>by rw [eS] at e;cases e⟩⟩
theorem VJ.put {cs':List Value} {g:Nat} {cs:List Value} (h:VJ B iA iS vA vC w) (e1:vA=.pointer (some ⟨g,0,none⟩)) (hg:B<=g) (hb:BlkT w g cs tDoc) (hc:noPx cs) (hW:Wrote g w w') (hB:Blk w' g cs') (h2:noPx cs') (hl:cs'.length=5) (ev:vC=.agg cs'.toArray):VJ B iA true vA vC w'∧DR B w w':=
 ⟨⟨by rw [hW.size];exact h.bsz,fun _=>⟨g,cs',e1,hg,hb.wrote hW hB,h2,hl,fun _=>ev⟩⟩,DR.wrote hb hc hW hg⟩
end
def DBlk (w:World) (g:Nat) (a b M:Int) (x:PSc):Prop:=∃ A c m,BlkT w g [.int .i64 a,.int .i64 b,.int .i64 M,.slice A x.t.length c,.map (some m)] tDoc∧DTree w (.slice A x.t.length c) x.t∧DMap w m (has x.t) x.nd
theorem DBlk.below {w w':World} {g:Nat} {a b M:Int} {x:PSc} (h:DBlk w g a b M x) (hb:Below w.heap.size w w'):DBlk w' g a b M x:=by
 obtain ⟨A,c,m,h1,h2,h3⟩:=h;exact ⟨A,c,m,h1.stays (hb.block _ h1.inside),h2.below hb,h3.below hb⟩
theorem DocAt.ex {w:World} {v:Value} {a b M:Int} {x:PSc} (h:DocAt w v a b M x):∃ A c m,v=.agg #[.int .i64 a,.int .i64 b,.int .i64 M,.slice A x.t.length c,.map (some m)]∧DTree w (.slice A x.t.length c) x.t∧DMap w m (has x.t) x.nd:=by
 obtain ⟨tv,m,rfl,⟨A,c,rfl,h1⟩,h2⟩:=h;exact ⟨A,c,m,rfl,⟨A,c,rfl,h1⟩,h2⟩
def OpR.dcs (q:OpR):List Value:=q.o.dcs q.A q.c
theorem OpR.dcs_len (q:OpR):q.dcs.length=24:=rfl
structure OpsD (w:World) (A:Option Addr) (l:List OpR):Prop where
 row:SRow 24 OpR.dcs w A l
 px:∀ q∈l,PxR w q.A q.o.lk.l
theorem OpsD.below {w w':World} {A:Option Addr} {l:List OpR} (h:OpsD w A l) (hb:Below w.heap.size w w'):OpsD w' A l:=⟨SRow.below h.row hb,fun q hq=>(h.px q hq).below hb⟩
end
section
open Go.RowKit pxm imm trm Go.Maps
end
section
open Go.RowKit pxm imm
theorem SOwn.ge {α:Type} {T:TypeId} {k:Nat} {enc:α->List Value} {w:World} {base n c:Nat} {A:Option Addr} {l:List α} (h:SOwn T k enc w base (.slice A n c) l) {a:Addr} (e:A=some a):base<=a.block∧∃ cs fz,w.heap[a.block]?=some (.cells cs T fz):=by
 rcases h.2 with ⟨e2,_⟩ | ⟨g,cap,cur,e2,hg,hb,_⟩
 ·injection e2 with e3 _ _
  rw [e] at e3;cases e3
 ·injection e2 with e3 _ _
  rw [e] at e3
  injection e3 with e3
  rw [e3];exact ⟨hg,cur,_,hb⟩
end
section
open Go.RowKit pxm imm trm Go.Maps
structure KX (x:Nat) (A W:World):Prop where
 os:W.os=A.os
 tape:W.tape=A.tape
 output:W.output=A.output
 size:A.heap.size<=W.heap.size
 same:∀ k,k<A.heap.size->k≠x->W.heap[k]?=A.heap[k]?
theorem KX.refl (x:Nat) (A:World):KX x A A:=⟨rfl,rfl,rfl,nR,fun _ _ _=>rfl⟩
theorem KX.trans {x:Nat} {A B C:World} (h:KX x A B) (k:KX x B C):KX x A C:=⟨k.os.trans h.os,k.tape.trans h.tape,k.output.trans h.output,Nat.le_trans h.size k.size,fun j hj hn=>(k.same j (Nat.lt_of_lt_of_le hj h.size) hn).trans (h.same j hj hn)⟩
theorem KX.of_below {x:Nat} {A W:World} (hb:Below A.heap.size A W):KX x A W:=⟨hb.os,hb.tape,hb.output,hb.size,fun k hk _=>hb.block k hk⟩
theorem KX.to_below {x n:Nat} {A W:World} (h:KX x A W) (hn:n<=x) (hs:n<=A.heap.size):Below n A W:=⟨h.os,h.tape,h.output,h.size,fun k hk=>h.same k (by omega) (by omega)⟩
theorem KX.wrote {x:Nat} {A W:World} (hW:Wrote x A W):KX x A W:=by
 have hb:=hW.below (Below.refl 0 A) (Nat.zero_le _);exact ⟨hb.os,hb.tape,hb.output,hb.size,fun k _ hn=>hW.far hn⟩
structure RJ (r:Nat) (o:Op9) (d:Bool) (w:World):Prop where
 no:d=false->Blk w r [.int .i64 0,.int .i64 0,.int .i64 0,.int .i64 0,.int .i64 0,.int .i64 0,.int .i64 0,.int .i64 0,.int .i64 0,.int .i64 0,.int .i64 0,.bool false,.bool false,.int .i64 0,.int .i64 0,.int .i64 0,.int .i64 0,.int .i64 0,.int .i64 0,.int .i64 0,.int .u32 0,.int .i64 0,.int .i64 0,.slice none 0 0]
 yes:d=true->∃ A c,Blk w r (o.dcs A c)∧PxR w A o.lk.l∧∀ a,A=some a->r<a.block
theorem RJ.below {r:Nat} {o:Op9} {d:Bool} {w w':World} (h:RJ r o d w) (hb:Below w.heap.size w w'):RJ r o d w':=⟨fun e=>(h.no e).below' hb,fun e=>by
 obtain ⟨A,c,h1,h2,h3⟩:=h.yes e
 exact ⟨A,c,h1.below' hb,h2.below hb,h3⟩⟩
abbrev tDOp:TypeId:=193
abbrev tDOps:TypeId:=125
abbrev DOwn (w:World) (base:Nat) (v:Value) (l:List OpR):Prop:=SOwn tDOp 24 OpR.dcs w base v l
theorem OpR.dcs_plain (q:OpR):∀ u∈q.dcs,u.oneCell'=true:=by
 have h:q.dcs.all (·.oneCell')=true:=rfl;exact fun u hu=>List.all_eq_true.1 h u hu
theorem info_dop:(Tryz.prog.info? tDOp).map (fun i=>(i.zero,i.size,i.bytes))=some (some (.agg #[.int .i64 0,.int .i64 0,.int .i64 0,.int .i64 0,.int .i64 0,.int .i64 0,.int .i64 0,.int .i64 0,.int .i64 0,.int .i64 0,.int .i64 0,.bool false,.bool false,.int .i64 0,.int .i64 0,.int .i64 0,.int .i64 0,.int .i64 0,.int .i64 0,.int .i64 0,.int .u32 0,.int .i64 0,.int .i64 0,.slice none 0 0]),24,200):=by kernel_rfl
theorem app_dop {w:World} {base:Nat} {v:Value} {l:List OpR} (h:DOwn w base v l) (q:OpR) {c:Nat} (hn:l.length<=900000) (hbase:base<=w.heap.size) :
  ∃ v' w',(Builtin.append_ #[tDOps,tDOps] tDOps #[v,.slice (some ⟨w.heap.size,0,none⟩) 1 c]).run Tryz.prog (w.alloc (.cells q.dcs.toArray tDOp))=.ok v' w'∧DOwn w' base v' (l++[q]) ∧
   (w.alloc (.cells q.dcs.toArray tDOp)).grownBy w' v.ownBlock∧(v'.ownBlock=v.ownBlock∨v'.ownBlock=some (w.heap.size+1)):=by
 have e:[q].flatMap OpR.dcs=q.dcs:=by simp
 obtain ⟨v',w',h1,h2,h3,h4⟩:=SOwn.app (P:=Tryz.prog) (xs:=[q]) (c:=c) (g:=w.heap.size) (o:=0) Tryz.underlying125 info_dop rfl (by decide) (by decide) OpR.dcs_len OpR.dcs_plain
  (h.below (bR.alloc nR (.cells q.dcs.toArray tDOp))) (fun _=>by have:=srow_new (enc:=OpR.dcs) OpR.dcs_len w [q] tDOp rfl;rw [e] at this;exact this) (by simp;omega) (by simp;omega)
 refine ⟨v',w',h1,h2,h3,?_⟩
 simpa using h4
structure Laid (w:World) (base:Nat) (v:Value) (l:List OpR) (os:List Op9):Prop where
 own:DOwn w base v l
 os:l.map (·.o)=os
 px:∀ q∈l,PxR w q.A q.o.lk.l∧∀ a,q.A=some a->q.o.lk.l≠[]->v.ownBlock≠some a.block
theorem Laid.below {w w':World} {base:Nat} {v:Value} {l:List OpR} {os:List Op9} (h:Laid w base v l os) (hb:Below w.heap.size w w'):Laid w' base v l os:=⟨SOwn.below h.own hb,h.os,fun q hq=>⟨(h.px q hq).1.below hb,(h.px q hq).2⟩⟩
theorem Laid.step {w w2:World} {base:Nat} {v:Value} {l:List OpR} {os:List Op9} (h:Laid w base v l os) (hbase:base<=w.heap.size) (hn:l.length<=900000) (hb:Below w.heap.size w w2) {o:Op9} {A:Option Addr} {c:Nat} (hr:PxR w2 A o.lk.l) (hg:∀ a,A=some a->w.heap.size<=a.block) {cc:Nat} :
  ∃ v' w',(Builtin.append_ #[tDOps,tDOps] tDOps #[v,.slice (some ⟨w2.heap.size,0,none⟩) 1 cc]).run Tryz.prog (w2.alloc (.cells (o.dcs A c).toArray tDOp))=.ok v' w'∧Laid w' base v' (l++[⟨o,A,c⟩]) (os++[o])∧Below base w2 w':=by
 have h2:=h.below hb;obtain ⟨v',w',hrun,ho,hgr,hat⟩:=app_dop h2.own ⟨o,A,c⟩ (c:=cc) hn (Nat.le_trans hbase hb.size);have hal:Below w2.heap.size w2 (w2.alloc (.cells (o.dcs A c).toArray tDOp)):=bR.alloc nR _
 have hown:∀ a,A=some a->v.ownBlock≠some a.block:=fun a ea e=>by
  have h1:=(h.own.block e).2;have:=hg a ea;omega
 have keep:∀ (A':Option Addr) (lk:List Nat),PxR w2 A' lk->(∀ a,A'=some a->lk≠[]->v.ownBlock≠some a.block)->PxR w' A' lk∧∀ a,A'=some a->lk≠[]->v'.ownBlock≠some a.block:=fun A' lk h3 h4=>by
  refine ⟨(h3.below hal).stays fun a ea hne=>hgr.block _ (Row.lt (h3.below hal).row ea hne) (Ne.symm (h4 a ea hne)),fun a ea hne e=>?_⟩;rcases hat with h5 | h5
  ·exact h4 a ea hne (h5 ▸ e)
  ·rw [h5] at e;have h6:=Row.lt h3.row ea hne;have:=Option.some.inj e;omega
 refine ⟨v',w',hrun,⟨ho,by rw [List.map_append,h.os];rfl,fun q hq=>?_⟩,(hal.mono (Nat.le_trans hbase hb.size)).grown hgr (by simp;have:=hb.size;omega) fun j hj=>(h2.own.block hj).1⟩;rcases List.mem_append.1 hq with hq | hq
 ·exact keep _ _ (h2.px q hq).1 (h2.px q hq).2
 ·rw [List.mem_singleton.1 hq];exact keep A o.lk.l hr fun a ea _=>hown a ea
theorem Laid.done {w:World} {base:Nat} {v:Value} {l:List OpR} {os:List Op9} (h:Laid w base v l os):∃ A c,v=.slice A l.length c∧OpsD w A l:=by
 obtain ⟨A,c,e,_,_,hr⟩:=SOwn.row h.own OpR.dcs_len;exact ⟨A,c,e,hr,fun q hq=>(h.px q hq).1⟩
end
section
open Go.RowKit pxm imm trm Go.Maps
theorem DMap.far {w:World} {g b m:Nat} {s:Sh} {Z:ZZ} {x:PSc} (hs:SceneAt w g b m s Z x) {dm:Nat} {H:Int->Bool} {nd:Int->Nd} (h:DMap w dm H nd) (h0:H 0=true):¬ SFoot b m s x.t dm:=by
 obtain ⟨es,h1,h2,h3⟩:=h.ex
 have i0:I64 (0:Int):=⟨by decide,by decide⟩
 obtain ⟨v,ev,A,c,rfl,-⟩:=h3 0 h0;rintro (e | hk)
 ·obtain ⟨es2,g1,g2,g3⟩:=hs.map;obtain ⟨u,eu,A2,c2,rfl,-⟩:=g3 0 (has_iff.2 (.inl rfl));subst e;have r1:=h1.lookup (t:=tDNs) (E:=54) Tryz.underlying32 (zero_dn w) i0;have r2:=g1.lookup (t:=tDNs) (E:=54) Tryz.underlying32 (zero_dn w) i0;rw [ev] at r1;rw [eu] at r2;have r3:=r1.symm.trans r2
  injection r3 with r3 _
  simp only [Option.getD_some,Nd.v,plv] at r3
  injection r3 with r3
  have:=congrArg Array.size r3;simp [Nd.cs,plcs] at this
 ·rcases hk with hk | hk | ⟨i,hi,hk | hk⟩
  ·exact h1.not_blk hs.tree.raw.blk hk
  ·have r1:=h1.lookup (t:=186) (E:=182) Tryz.underlying186 (zeroPtr w) i0;have r2:=hs.tree.raw.look_some (i:=0) i0 (has_iff.2 (.inl rfl));subst hk;rw [ev] at r1;have r3:=r1.symm.trans r2
   injection r3 with r3 _
   simp only [Option.getD_some,Nd.v] at r3;cases r3
  ·exact h1.not_blk (hs.tree.raw.node i hi).blk hk
  ·obtain ⟨cur,fr,h4⟩:=(hs.tree.raw.node i hi).own.typed hk;obtain ⟨es',clock,h5,_⟩:=h1.own;have:=h4.symm.trans h5;cases this
theorem typ_far {w:World} {g b m:Nat} {s:Sh} {Z:ZZ} {x:PSc} (hs:SceneAt w g b m s Z x) {k:Nat} {cs:Array Value} {T:TypeId} {fz:Nat×Nat} (h:w.heap[k]?=some (.cells cs T fz)) (hT:T=132∨T=49):¬ SFoot b m s x.t k:=by
 have hne:∀ {cs':Array Value} {T':TypeId} {fz':Nat×Nat},w.heap[k]?=some (.cells cs' T' fz')->T'≠132->T'≠49->False:=fun h2 n1 n2=>by
  have:=h.symm.trans h2;simp only [Option.some.injEq,Obj.cells.injEq] at this;rcases hT with e | e
  ·exact n1 (this.2.1 ▸ e)
  ·exact n2 (this.2.1 ▸ e)
 rintro (e | hk)
 ·obtain ⟨es2,g1,_⟩:=hs.map;obtain ⟨es',clock,h5,_⟩:=g1.own;rw [e] at h;have:=h.symm.trans h5;cases this
 ·rcases hk with hk | hk | ⟨i,hi,hk | hk⟩
  ·have h1:w.heap[b]?=_:=hs.tree.raw.blk;rw [← hk] at h1;exact hne h1 (by decide) (by decide)
  ·obtain ⟨es,hm,_⟩:=hs.tree.raw.map;obtain ⟨es',clock,h1,_⟩:=hm.own;rw [hk] at h;have:=h.symm.trans h1;cases this
  ·have h1:w.heap[s.g i]?=_:=(hs.tree.raw.node i hi).blk;rw [← hk] at h1;exact hne h1 (by decide) (by decide)
  ·obtain ⟨cur,fr,h1⟩:=(hs.tree.raw.node i hi).own.typed hk;exact hne h1 (by decide) (by decide)
section
variable {w w':World} {g b m:Nat} {s:Sh} {Z:ZZ} {x y:PSc} {S':Bset}
theorem DTree.turn (hs:SceneAt w g b m s Z x) (ht:TurnP (SFoot b m s x.t) S' w w') {v:Value} {t:T} (h:DTree w v t):DTree w' v t:=h.stays fun _ _ a _ hy ea=>by
 obtain ⟨cs,fz,h1⟩:=hy a ea;exact (ht.far _ (lt_of_block h1) (typ_far hs h1 (.inl rfl))).2
theorem DPl.turn (hs:SceneAt w g b m s Z x) (ht:TurnP (SFoot b m s x.t) S' w w') {v:Value} {n:Nd} (h:DPl w v n):DPl w' v n:=by
 obtain ⟨A,c,e,hr⟩:=h;refine ⟨A,c,e,hr.stays fun a ea hne=>?_⟩;obtain ⟨cs,fz,h1⟩:=hr.typ a ea hne;exact (ht.far _ (lt_of_block h1) (typ_far hs h1 (.inr rfl))).2
theorem DMap.turn (hs:SceneAt w g b m s Z x) (ht:TurnP (SFoot b m s x.t) S' w w') {dm:Nat} {H:Int->Bool} {nd:Int->Nd} (h:DMap w dm H nd) (h0:H 0=true):DMap w' dm H nd:=by
 have hf:=h.far hs h0;obtain ⟨es,h1,h2,h3⟩:=h.ex;refine ⟨es,h1.stays (ht.far _ h1.inside hf).2,h2,fun i hi=>?_⟩;obtain ⟨v,e,hv⟩:=h3 i hi;exact ⟨v,e,DPl.turn hs ht hv⟩
end
def oneQ (p:Nat):Bset:=fun k=>k=p
abbrev tPl:TypeId:=37
structure PlS (w0:World) (p g b m:Nat) (s:Sh) (za zb zc:Int) (x:PSc) (w:World):Prop where
 blk:∃ A c dm,BlkT w p [.pointer (some ⟨g,0,none⟩),.int .i64 za,.int .i64 zb,.int .i64 zc,.slice A x.t.length c,.map (some dm)] tPl∧DTree w (.slice A x.t.length c) x.t∧DMap w dm (has x.t) x.nd
 my:MyS w0 g b m s ⟨za,⟨zb,zc⟩,oneQ p⟩ x w
 pge:w0.heap.size<=p
theorem PlS.below {w0 w w':World} {p g b m:Nat} {s:Sh} {za zb zc:Int} {x:PSc} (h:PlS w0 p g b m s za zb zc x w) (hb:Below w.heap.size w w'):PlS w0 p g b m s za zb zc x w':=by
 obtain ⟨A,c,dm,h1,h2,h3⟩:=h.blk;exact ⟨⟨A,c,dm,h1.stays (hb.block _ h1.inside),h2.below hb,h3.below hb⟩,h.my.below hb,h.pge⟩
theorem PlS.new {w0 w w':World} {p g b m:Nat} {s:Sh} {Z:ZZ} {x:PSc} {A:Option Addr} {c dm:Nat} (h:MyS w0 g b m s Z x w) (hp:p=w.heap.size) (hb:Below w.heap.size w w') (h1:BlkT w' p [.pointer (some ⟨g,0,none⟩),.int .i64 Z.1,.int .i64 Z.2.1,.int .i64 Z.2.2,.slice A x.t.length c,.map (some dm)] tPl) (h2:DTree w' (.slice A x.t.length c) x.t) (h3:DMap w' dm (has x.t) x.nd):PlS w0 p g b m s Z.1 Z.2.1 Z.2.2 x w':=
 ⟨⟨A,c,dm,h1,h2,h3⟩,⟨h.at_.part (E':=oneQ p) (fun k hk _=>hb.block k hk) fun k hk=>by
  obtain rfl:k=p:=hk
  exact ⟨h1.inside,.inr (Nat.le_of_eq hp.symm)⟩,h.ft,h.bel.trans (hb.mono h.bel.size)⟩,by rw [hp];exact h.bel.size⟩
end
section
open Go.RowKit pxm imm trm Go.Maps
end
section
open Go.RowKit pxm imm trm Go.Maps itr Go.Shelf
attribute [local go_sem] Oper.semAt_some
theorem KX.below {x:Nat} {A W W':World} (h:KX x A W) (hb:Below A.heap.size W W'):KX x A W':=⟨hb.os.trans h.os,hb.tape.trans h.tape,hb.output.trans h.output,Nat.le_trans h.size hb.size,fun k hk hn=>(hb.block k hk).trans (h.same k hk hn)⟩
theorem KX.set {x:Nat} {A W:World} (h:KX x A W) (v:Value):KX x A (W.setCell ⟨x,0,none⟩ v):=⟨h.os,h.tape,h.output,by simpa [World.setCell] using h.size,fun k hk hn=>(heap_setCell_other _ _ _ _ hn).trans (h.same k hk hn)⟩
theorem KX.bk {x:Nat} {A W W':World} (h:KX x A W) (hb:Bk A.heap.size W W'):KX x A W':=h.below (hb.below nR h.size)
theorem inv_walk (v:Value) (w:World):(invoke (.fn (.method "Walk") #[]) #[.iface 102 v]).run Tryz.prog w=.ok (.enter 215 #[v]) w:=by kernel_rfl
theorem wd_at {t:T} {j:Nat} (h:j<(wd t 0 0).length) (h2:j<(trm.walk t 0).length):(wd t 0 0)[j]=((trm.walk t 0)[j],depth t (trm.walk t 0)[j]):=by
 simp only [wd,List.getElem_map,depth_0];simp
end
end Go.Proofs.YthoildbfghfhpaaGreat
namespace Go.Proofs.YthoildbfghfhpaaGreat
open Go.RowKit
def ovr (n d:Int):Int:=if d<0 then rnd (-n*4294967296) (-d) else rnd (n*4294967296) d
theorem drew_bel {w w':World} (h:Drew w w'):Below w.heap.size w w':=h.below _
theorem aover_any (n d:Int) (w:World) (h1:-1073741824<=n) (h2:n<=1073741824) (h3:-2305843009213693952<=d) (h4:d<=2305843009213693952) (h0:d≠0) :
  Calls Tryz.prog 119 #[.int .i64 n,.int .i64 d] w fun e w'=>e=.returned (.int .i64 (ovr n d))∧Below w.heap.size w w':=by
 by_cases hd:d<0
 ·have HR:=Hd (fun w=>round_any (-n*4294967296) (-d) w (by omega) (by omega) (by omega) (by omega));have e:ovr n d=rnd (-n*4294967296) (-d):=if_pos hd;rw [e];clear e
  obtain ⟨M,hM⟩:∃ M,-n=M:=⟨_,rfl⟩
  obtain ⟨D,hD⟩:∃ D,-d=D:=⟨_,rfl⟩
  rw [hM,hD] at HR ⊢;have b1:-1073741824<=M∧M<=1073741824:=by omega
  have b2:-2305843009213693952<=D∧D<=2305843009213693952:=by omega
  obtain ⟨K,hK⟩:∃ K,M*65536=K:=⟨_,rfl⟩
  have e:M*4294967296=K*65536:=by omega
  have b3:-70368744177664<=K∧K<=70368744177664:=by omega
  rw [e] at HR ⊢;clear e
  obtain ⟨X,hX⟩:∃ X,K*65536=X:=⟨_,rfl⟩
  have b4:-4611686018427387904<=X∧X<=4611686018427387904:=by omega
  rw [hX] at HR ⊢;have t1:decide (d<0)=true:=by simpa using hd
  have q1:wrap64 M=M:=IntWalk.wrap64_in _ (by omega);have q2:wrap64 D=D:=IntWalk.wrap64_in _ (by omega);have q3:wrap64 K=K:=IntWalk.wrap64_in _ (by omega);have q4:wrap64 X=X:=IntWalk.wrap64_in _ (by omega);clear hd h1 h2 h3 h4 h0 b1 b2 b3 b4;go_enter Tryz.func119,Tryz.ntmps119;go_wp2_with (fail);refine (HR.out _).mono ?_;rintro e w' ⟨rfl,hb⟩;go_wp2_with (fail);go_ret;exact ⟨rfl,drew_bel hb⟩
 ·have HR:=Hd (fun w=>round_any (n*4294967296) d w (by omega) (by omega) (by omega) (by omega));have e:ovr n d=rnd (n*4294967296) d:=if_neg hd;rw [e];clear e
  obtain ⟨K,hK⟩:∃ K,n*65536=K:=⟨_,rfl⟩
  have e:n*4294967296=K*65536:=by omega
  have b3:-70368744177664<=K∧K<=70368744177664:=by omega
  rw [e] at HR ⊢;clear e
  obtain ⟨X,hX⟩:∃ X,K*65536=X:=⟨_,rfl⟩
  have b4:-4611686018427387904<=X∧X<=4611686018427387904:=by omega
  rw [hX] at HR ⊢;have t1:decide (d<0)=false:=by simpa using hd
  have q3:wrap64 K=K:=IntWalk.wrap64_in _ (by omega);have q4:wrap64 X=X:=IntWalk.wrap64_in _ (by omega);clear hd h1 h2 h3 h4 h0 b3 b4;go_enter Tryz.func119,Tryz.ntmps119;go_wp2_with (fail);refine (HR.out _).mono ?_;rintro e w' ⟨rfl,hb⟩;go_wp2_with (fail);go_ret;exact ⟨rfl,drew_bel hb⟩
theorem rnd_split (n:Int):n / 65536+rnd (n % 65536) 65536=rnd n 65536:=by
 have e1:n % 65536 % 65536=n % 65536:=by omega
 have e2:n % 65536 / 65536=0:=by omega
 unfold rnd;rw [e1,e2];split<;>omega
theorem awhole_any (n:Int) (w:World) (h1:-9223372036854775808<=n) (h2:n<=9223372036854775807) :
  Calls Tryz.prog 98 #[.int .i64 n] w fun e w'=>e=.returned (.int .i64 (rnd n 65536))∧Below w.heap.size w w':=by
 have HR:=Hd (fun w=>round_any (n % 65536) 65536 w (by omega) (by omega) (by omega) (by omega));have ha:=i64_and16 n;have hs:=rnd_split n;have b1:-140737488355328<=n / 65536∧n / 65536<=140737488355328:=by omega
 have b2:0<=rnd (n % 65536) 65536∧rnd (n % 65536) 65536<=1:=by unfold rnd;split<;>omega
 obtain ⟨R,hR⟩:∃ R,rnd (n % 65536) 65536=R:=⟨_,rfl⟩
 rw [hR] at HR hs b2;rw [← hs];clear hs hR;generalize n % 65536=m at *;have h2p:n / 2 ^ 16=n / 65536:=rfl
 obtain ⟨Q,hQ⟩:∃ Q,n / 65536=Q:=⟨_,rfl⟩
 rw [hQ] at h2p b1 ⊢;have q1:wrap64 (Q+R)=Q+R:=IntWalk.wrap64_in _ (by omega);clear h1 h2 b1 b2;go_enter Tryz.func98,Tryz.ntmps98;go_wp2_with (fail);refine (HR.out _).mono ?_;rintro e w' ⟨rfl,hb⟩;go_wp2_with (fail);go_ret;exact ⟨ret_num q1,drew_bel hb⟩
def Mp.det (m:Mp):Int:=m.a*m.d - m.b*m.c
def Mp.bk (m:Mp):Mp:=⟨ovr m.d m.det,ovr (-m.b) m.det,ovr (-m.c) m.det,ovr m.a m.det,m.e,m.f⟩
def Mp.l4 (m:Mp):List Int:=[m.a,m.b,m.c,m.d]
def Mp.back (m:Mp):Mp×Int:=if m.right=false then (Mp.o,11) else if m.det=0 then (Mp.o,43) else if allR m.bk.l4=true then (m.bk,0) else (Mp.o,35)
theorem right_bd {m:Mp} (h:m.right=true):(-1073741824<=m.a∧m.a<=1073741824)∧(-1073741824<=m.b∧m.b<=1073741824)∧(-1073741824<=m.c∧m.c<=1073741824)∧(-1073741824<=m.d∧m.d<=1073741824)∧(-1073741824<=m.e∧m.e<=1073741824)∧(-1073741824<=m.f∧m.f<=1073741824):=by
 unfold Mp.right Mp.l allR at h;simp only [List.all_cons,List.all_nil,Bool.and_true,Bool.and_eq_true] at h;exact ⟨rightB_of h.1,rightB_of h.2.1,rightB_of h.2.2.1,rightB_of h.2.2.2.1,rightB_of h.2.2.2.2.1,rightB_of h.2.2.2.2.2⟩
theorem o_ret {tmps:Array Value} {W:World} {Q:Ending->World->Prop} {g:Nat} {v:Value} {m:Mp} (hp:tmps.getD 2 undef=.pointer (some ⟨g,0,none⟩)) (hq:tmps.getD 3 undef=v) (hB:Blk W g m.cs) (h:Q (.returned (.tuple #[m.v,v])) W) :
  bodyPost Tryz.prog Tryz.f87 Q Exit.ret { tmps:=tmps,defers:=[] } W:=
 blk_ret2 rfl hp hq hB Tryz.underlying67 rfl (by kernel_rfl) h
theorem mp_back (m:Mp) (w:World):Calls Tryz.prog 87 #[m.v] w fun e w'=>e=.returned (.tuple #[m.back.1.v,.int .i64 m.back.2])∧Below w.heap.size w w':=by
 have HRM:=Hd (fun w=>mp_right m w);have HBK:Hid (m.back=if m.right=false then (Mp.o,11) else if m.det=0 then (Mp.o,43) else if allR m.bk.l4=true then (m.bk,0) else (Mp.o,35)):=rfl;have HRB:=Hd (right_bd (m:=m))
 obtain ⟨R,hR⟩:∃ R,m.back=R:=⟨_,rfl⟩
 rw [hR] at HBK ⊢;clear hR;obtain ⟨RM,RE⟩:=R;have HDET:Hid (m.det=m.a*m.d - m.b*m.c):=rfl;have HKD:Hid (m.bk=⟨ovr m.d m.det,ovr (-m.b) m.det,ovr (-m.c) m.det,ovr m.a m.det,m.e,m.f⟩):=rfl;generalize m.right=y at *;generalize m.det=D at *;generalize m.bk=K at *;obtain ⟨ka,kb,kc,kd,ke,kf⟩:=m;unfold Mp.v at HRM ⊢;simp only at HRM HRB HDET HKD ⊢;go_enter Tryz.func87,Tryz.ntmps87;go_wp2_with (fail);refine (HRM.out _).mono ?_;rintro e1 W1 ⟨rfl,hb⟩;have B1:Hid (Below w.heap.size w W1):=((bR.alloc nR _).alloc (by simp) _).trans (hb.mono (by simp;omega))
 have bm1:Hid (Blk W1 w.heap.size (Vd ka kb kc kd ke kf)):=((blk_new w (Vd ka kb kc kd ke kf) _).alloc _).below hb (by simp;omega);have br1:Hid (Blk W1 (w.heap.size+1) Mp.o.cs):=(blk_at (w.alloc _) _ (by simp) Mp.o.cs _).below hb (by simp);clear hb HRM;cases y with
 | false=>
  have hT:=HBK.out.trans (if_pos rfl)
  injection hT with h1 h2
  subst h1;subst h2;obtain ⟨⟨c0,c1,c2,c3,c4,c5⟩,⟨f0,f1,f2,f3,f4,f5⟩,ri⟩:=Blk.c6 br1.out;clear HBK HRB HDET HKD bm1;go_wp2_with (fail);exact o_ret (m:=Mp.o) rfl rfl (Blk.put6 br1.out _ _ _ _ _ _) ⟨rfl,below6 B1.out (by omega) _ _ _ _ _ _⟩
 | true=>
  have HBK2:=Hd (HBK.out.trans (if_neg (by decide)));obtain ⟨ra,rb,rc,rd,re,rf⟩:=HRB.out rfl;clear HBK HRB;obtain ⟨⟨m0,m1,m2,m3,m4,m5⟩,-,mi⟩:=Blk.c6 bm1.out;have hdet:=HDET.out;obtain ⟨x1,x2⟩:=prod_bd ra.1 ra.2 rd.1 rd.2;obtain ⟨y1,y2⟩:=prod_bd rb.1 rb.2 rc.1 rc.2
  obtain ⟨X,hX⟩:∃ X,ka*kd=X:=⟨_,rfl⟩
  obtain ⟨Y,hY⟩:∃ Y,kb*kc=Y:=⟨_,rfl⟩
  rw [hX,hY] at hdet;rw [hX] at x1 x2;rw [hY] at y1 y2;have q1:wrap64 X=X:=IntWalk.wrap64_in _ (by omega);have q2:wrap64 Y=Y:=IntWalk.wrap64_in _ (by omega);have q3:wrap64 (X - Y)=D:=by rw [hdet];exact IntWalk.wrap64_in _ (by omega)
  have HDB:Hid (-2305843009213693952<=D∧D<=2305843009213693952):=by rw [hdet];show _∧_;omega
  have HRR:=Hd (And.intro ra (And.intro rb (And.intro rc rd)));clear hdet x1 x2 y1 y2 HDET ra rb rc rd re rf;by_cases hD:D=0
  ·have t:(D==0)=true:=by simpa using hD
   have hT:=HBK2.out.trans (if_pos hD)
   injection hT with h1 h2
   subst h1;subst h2;clear hD HBK2 HKD HDB HRR;obtain ⟨⟨c0,c1,c2,c3,c4,c5⟩,⟨f0,f1,f2,f3,f4,f5⟩,ri⟩:=Blk.c6 br1.out;go_wp2_with (fail);exact o_ret (m:=Mp.o) rfl rfl (Blk.put6 br1.out _ _ _ _ _ _) ⟨rfl,below6 B1.out (by omega) _ _ _ _ _ _⟩
  ·have t:(D==0)=false:=by simpa using hD
   have HBK3:=Hd (HBK2.out.trans (if_neg hD));have HO1:=Hd (fun w=>aover_any kd D w HRR.out.2.2.2.1 HRR.out.2.2.2.2 HDB.out.1 HDB.out.2 hD);have HO2:=Hd (fun w=>aover_any (-kb) D w (by have:=HRR.out.2.1;omega) (by have:=HRR.out.2.1;omega) HDB.out.1 HDB.out.2 hD);have HO3:=Hd (fun w=>aover_any (-kc) D w (by have:=HRR.out.2.2.1;omega) (by have:=HRR.out.2.2.1;omega) HDB.out.1 HDB.out.2 hD);have HO4:=Hd (fun w=>aover_any ka D w HRR.out.1.1 HRR.out.1.2 HDB.out.1 HDB.out.2 hD);generalize ovr kd D=z1 at *;generalize ovr (-kb) D=z2 at *;generalize ovr (-kc) D=z3 at *;generalize ovr ka D=z4 at *
   have hK:=HKD.out;subst hK;have hw1:wrap64 (-kb)=-kb:=IntWalk.wrap64_in _ (by have:=HRR.out.2.1;omega);have hw2:wrap64 (-kc)=-kc:=IntWalk.wrap64_in _ (by have:=HRR.out.2.2.1;omega);have hv1:IntKind.i64.wrap (-kb)=-kb:=IntWalk.i64_in _ (by have:=HRR.out.2.1;omega);have hv2:IntKind.i64.wrap (-kc)=-kc:=IntWalk.i64_in _ (by have:=HRR.out.2.2.1;omega);clear hD HBK2 HKD HDB HRR
   have HK1:Hid (JBs [(w.heap.size,(Vd ka kb kc kd ke kf)),(w.heap.size+1,Mp.o.cs)] W1):=⟨bm1.out,br1.out,trivial⟩
   clear bm1 br1;go_wp2_with (fail);simp only [q1,q2,q3];clear m0 m1 m2 m3 m4 m5 mi q1 q2 q3 hX hY
   refine wRv (Below W1.heap.size) (fun L V wx=>JN W1.heap.size [(w.heap.size,(Vd ka kb kc kd ke kf)),((w.heap.size+1),Ve)] Ve (Vd z1 z2 z3 z4 ke kf) (L 23) (L 24) (V 5) wx) [24,25,26,27,28,29,30,31,32,33,34,35,36,37,38,39,40,41,42,43,44,45,46,5] (fun _=>bR) (fun _ _ _ h k=>h.trans k) (fun i=>match i with
    |0=>rp w.heap.size 3
    |1=>rV (.int .i64 kd)
    |2|7|12|16=>rV (.int .i64 D)
    |3=>rV (.int .i64 z1)
    |4=>rp w.heap.size 1
    |5=>rV (.int .i64 kb)
    |6=>rV (.int .i64 (-kb))
    |8=>rV (.int .i64 z2)
    |9=>rp w.heap.size 2
    |10=>rV (.int .i64 kc)
    |11=>rV (.int .i64 (-kc))
    |13=>rV (.int .i64 z3)
    |14=>rp w.heap.size 0
    |15=>rV (.int .i64 ka)
    |17=>rV (.int .i64 z4)
    |18=>rp w.heap.size 4
    |19=>rV (.int .i64 ke)
    |20=>rp w.heap.size 5
    |21=>rV (.int .i64 kf)
    |22=>rV (.agg (Vd z1 z2 z3 z4 ke kf).toArray)
    | _=>ra) (bR.drew) (JN.start (w:=W1.drew) HK1.out) ⟨?_,?_,?_,?_,?_,?_,?_,?_,?_,?_,?_,?_,?_,?_,?_,?_,?_,?_,?_,?_,?_,?_,?_,?_,?_,trivial⟩ ?_
   any_goals (first|refine zpv fun L a w1 hh=>?_|fail)
   have h1:=hh.p 1 w.heap.size 0;rotate_left
   ·have h24:=rq (hh.d 0 24);obtain ⟨⟨c0,c1,c2,c3,c4,c5⟩,-,ci⟩:=(hh.st.1.1.1).c6;have hJ:=hh.j;clear hh;go_simp;exact ⟨_,rfl,bR,rfl,JN.slots hJ.out sn⟩
   have h4:=hh.o 4 (v:=.int .i64 D) rfl;rotate_left
   ·have h25:=rq (hh.d 1 25);have h26:=rq (hh.d 2 26);have:=True.intro;have hJ:=hh.j;clear hh;go_simp;refine (HO1.out w1).mono ?_;rintro e w9 ⟨rfl,hb9⟩;exact ⟨_,rfl,hb9.mono hJ.out.1.2.1,rfl,JN.slots (JN.below hJ.out hb9) sn⟩
   have h1:=hh.p 1 w.heap.size 0;rotate_left
   ·have h28:=rq (hh.d 4 28);obtain ⟨⟨c0,c1,c2,c3,c4,c5⟩,-,ci⟩:=(hh.st.1.1.1).c6;have hJ:=hh.j;clear hh;go_simp;exact ⟨_,rfl,bR,rfl,JN.slots hJ.out sn⟩
   have h29:=rq (hh.d 5 29);rotate_left;have h4:=hh.o 4 (v:=.int .i64 D) rfl;rotate_left
   ·have h30:=rq (hh.d 6 30);have h31:=rq (hh.d 7 31);have:=True.intro;have hJ:=hh.j;clear hh;go_simp;refine (HO2.out w1).mono ?_;rintro e w9 ⟨rfl,hb9⟩;exact ⟨_,rfl,hb9.mono hJ.out.1.2.1,rfl,JN.slots (JN.below hJ.out hb9) sn⟩
   have h1:=hh.p 1 w.heap.size 0;rotate_left
   ·have h33:=rq (hh.d 9 33);obtain ⟨⟨c0,c1,c2,c3,c4,c5⟩,-,ci⟩:=(hh.st.1.1.1).c6;have hJ:=hh.j;clear hh;go_simp;exact ⟨_,rfl,bR,rfl,JN.slots hJ.out sn⟩
   have h34:=rq (hh.d 10 34);rotate_left;have h4:=hh.o 4 (v:=.int .i64 D) rfl;rotate_left
   ·have h35:=rq (hh.d 11 35);have h36:=rq (hh.d 12 36);have:=True.intro;have hJ:=hh.j;clear hh;go_simp;refine (HO3.out w1).mono ?_;rintro e w9 ⟨rfl,hb9⟩;exact ⟨_,rfl,hb9.mono hJ.out.1.2.1,rfl,JN.slots (JN.below hJ.out hb9) sn⟩
   have h1:=hh.p 1 w.heap.size 0;rotate_left
   ·have h38:=rq (hh.d 14 38);obtain ⟨⟨c0,c1,c2,c3,c4,c5⟩,-,ci⟩:=(hh.st.1.1.1).c6;have hJ:=hh.j;clear hh;go_simp;exact ⟨_,rfl,bR,rfl,JN.slots hJ.out sn⟩
   have h4:=hh.o 4 (v:=.int .i64 D) rfl;rotate_left
   ·have h39:=rq (hh.d 15 39);have h40:=rq (hh.d 16 40);have:=True.intro;have hJ:=hh.j;clear hh;go_simp;refine (HO4.out w1).mono ?_;rintro e w9 ⟨rfl,hb9⟩;exact ⟨_,rfl,hb9.mono hJ.out.1.2.1,rfl,JN.slots (JN.below hJ.out hb9) sn⟩
   have h1:=hh.p 1 w.heap.size 0;rotate_left
   ·have h42:=rq (hh.d 18 42);obtain ⟨⟨c0,c1,c2,c3,c4,c5⟩,-,ci⟩:=(hh.st.1.1.1).c6;have hJ:=hh.j;clear hh;go_simp;exact ⟨_,rfl,bR,rfl,JN.slots hJ.out sn⟩
   have h1:=hh.p 1 w.heap.size 0;rotate_left
   ·have h44:=rq (hh.d 20 44);obtain ⟨⟨c0,c1,c2,c3,c4,c5⟩,-,ci⟩:=(hh.st.1.1.1).c6;have hJ:=hh.j;clear hh;go_simp;exact ⟨_,rfl,bR,rfl,JN.slots hJ.out sn⟩
   have h27:=rq (hh.d 3 27);have h32:=rq (hh.d 8 32);have h37:=rq (hh.d 13 37);have h41:=rq (hh.d 17 41);have h43:=rq (hh.d 19 43);have h45:=rq (hh.d 21 45);rotate_left
   ·have hJ:=Hd hh.st;have hsz:=Hd hh.size;have hun:=Hd hh.un;clear hh;go_simp;exact ⟨_,rfl,bR.alloc hJ.out.1.2.1 _,trivial,JN.new hJ.out hun.out (regv.sl_same (by rw [hsz.out];simp))⟩
   ·have h46:=rq (hh.d 22 46);obtain ⟨g,h0,hg,hB⟩:=hh.st.2.1 (hh.up 23 (by kernel_rfl));have h5:a.tmps[5]?.getD undef=.pointer (some ⟨g,0,none⟩):=rq (h0);rw [hh.un] at hB;obtain ⟨⟨c0,c1,c2,c3,c4,c5⟩,⟨f0,f1,f2,f3,f4,f5⟩,ci⟩:=(show Blk w1 g Ve from hB).c6;have hP:=Hd (JN.put hh.st rfl (hh.up 23 (by kernel_rfl)) hh.un h0);clear hh h0 hB;go_simp;exact ⟨hP.out.2,⟨undef,trivial⟩,hP.out.1⟩
   any_goals (have hJ:=hh.j;clear hh;go_simp;exact ⟨_,rfl,bR,rfl,JN.slots hJ.out sn⟩)
   intro L w2 val hL hJ hR hv;obtain ⟨g2,e2,hg2,hB2⟩:=hJ.2.1 (hL 23 (by decide));rw [hL 24 (by decide)] at hB2;have HN2:=Hd (And.intro hg2 (show Blk w2 g2 (Vd z1 z2 z3 z4 ke kf) from hB2));have HK2:=Hd hJ.1.1;clear hg2 hB2;have HR2:=Hd hR;clear hv hL hJ hR;simp only [regs.putAll,List.map_cons,List.map_nil];rw [e2];generalize val 24=v24;generalize val 25=v25;generalize val 26=v26;generalize val 27=v27;generalize val 28=v28;generalize val 29=v29;generalize val 30=v30;generalize val 31=v31;generalize val 32=v32;generalize val 33=v33;generalize val 34=v34;generalize val 35=v35
   generalize val 36=v36;generalize val 37=v37;generalize val 38=v38;generalize val 39=v39;generalize val 40=v40;generalize val 41=v41;generalize val 42=v42;generalize val 43=v43;generalize val 44=v44;generalize val 45=v45;generalize val 46=v46;simp only [Act.put,List.setIfInBounds_toArray,List.set_cons_zero,List.set_cons_succ];clear e2;have B2:Hid (Below w.heap.size w w2):=B1.out.trans (HR2.out.mono B1.out.size);have br2:Hid (Blk w2 (w.heap.size+1) Mp.o.cs):=HK2.out.2.1
   have HRT:=Hd (fun w g (hg:g=w.heap.size)=>right_any _ [z1,z2,z3,z4] 4 _ (row_new' w [z1,z2,z3,z4] 2 hg) (Nat.le_refl 4) (by decide));have HBK4:Hid ((RM,RE)=if allR [z1,z2,z3,z4]=true then (⟨z1,z2,z3,z4,ke,kf⟩,0) else (Mp.o,35)):=HBK3.out;clear HBK3 HR2 HK2 HK1 HO1 HO2 HO3 HO4 B1;obtain ⟨⟨n0,n1,n2,n3,n4,n5⟩,-,ni⟩:=HN2.out.2.c6;have hgw:=HN2.out.1;generalize allR [z1,z2,z3,z4]=y at *;go_wp2_with (fail);refine (HRT.out _ _ rfl).mono ?_;rintro e3 w3 ⟨rfl,rfl⟩;have B3:Hid (Below w.heap.size w (w2.alloc (.cells (Vi z1 z2 z3 z4).toArray 2))):=B2.out.alloc B2.out.size _
   have br3:Hid (Blk (w2.alloc (.cells (Vi z1 z2 z3 z4).toArray 2)) (w.heap.size+1) Mp.o.cs):=br2.out.alloc _;have bn3:Hid (Blk (w2.alloc (.cells (Vi z1 z2 z3 z4).toArray 2)) g2 (Vd z1 z2 z3 z4 ke kf)):=HN2.out.2.alloc _
   have ew:∃ w4,(w2.alloc (.cells (Vi z1 z2 z3 z4).toArray 2))=w4:=⟨_,rfl⟩
   obtain ⟨w4,ew⟩:=ew;rw [ew] at B3 br3 bn3;simp only [List.map_cons,List.map_nil,eI] at *;rw [ew];clear ew n0 n1 n2 n3 n4 n5 ni hgw B2 br2 HN2 HRT;obtain ⟨⟨c0,c1,c2,c3,c4,c5⟩,⟨f0,f1,f2,f3,f4,f5⟩,ri⟩:=Blk.c6 br3.out;cases y with
   | true=>
    have hT:=HBK4.out.trans (if_pos rfl)
    injection hT with h1 h2
    subst h1;subst h2;clear HBK4;obtain ⟨⟨n0,n1,n2,n3,n4,n5⟩,-,ni⟩:=bn3.out.c6;go_wp2_with (fail);exact o_ret (m:=⟨z1,z2,z3,z4,ke,kf⟩) rfl rfl (Blk.put6 br3.out _ _ _ _ _ _) ⟨rfl,below6 B3.out (by omega) _ _ _ _ _ _⟩
   | false=>
    have hT:=HBK4.out.trans (if_neg (by decide))
    injection hT with h1 h2
    subst h1;subst h2;clear HBK4 bn3;go_wp2_with (fail);exact o_ret (m:=Mp.o) rfl rfl (Blk.put6 br3.out _ _ _ _ _ _) ⟨rfl,below6 B3.out (by omega) _ _ _ _ _ _⟩
end Go.Proofs.YthoildbfghfhpaaGreat
namespace Go.Proofs.YthoildbfghfhpaaGreat
open Go.RowKit
def Mp.from_ (b:Mp) (p:Pt):Pt:=⟨rnd (b.a*(p.x - b.e)+b.c*(p.y - b.f)) 65536,rnd (b.b*(p.x - b.e)+b.d*(p.y - b.f)) 65536⟩
theorem prod_bd3 {a b:Int} (h1:-1073741824<=a) (h2:a<=1073741824) (h3:-3221225472<=b) (h4:b<=3221225472):-3458764513820540928<=a*b∧a*b<=3458764513820540928:=by
 have g1:0<=(1073741824 - a)*(3221225472 - b):=Int.mul_nonneg (by omega) (by omega);have g2:0<=(1073741824+a)*(3221225472+b):=Int.mul_nonneg (by omega) (by omega);have g3:0<=(1073741824 - a)*(3221225472+b):=Int.mul_nonneg (by omega) (by omega);have g4:0<=(1073741824+a)*(3221225472 - b):=Int.mul_nonneg (by omega) (by omega);rw [Int.sub_mul,Int.mul_sub,Int.mul_sub] at g1;rw [Int.add_mul,Int.mul_add,Int.mul_add] at g2;rw [Int.sub_mul,Int.mul_add,Int.mul_add] at g3;rw [Int.add_mul,Int.mul_sub,Int.mul_sub] at g4;omega
def backOK (b:Mp) (p:Pt):Prop:=b.right=true∧(-2147483648<=p.x∧p.x<=2147483648)∧(-2147483648<=p.y∧p.y<=2147483648)
theorem mp_from (b:Mp) (p:Pt) (w:World) (h:backOK b p):Calls Tryz.prog 59 #[b.v,p.v] w fun e w'=>e=.returned (b.from_ p).v∧Below w.heap.size w w':=by
 obtain ⟨hr,hx,hy⟩:=h;obtain ⟨ra,rb,rc,rd,re,rf⟩:=right_bd hr;clear hr;obtain ⟨ka,kb,kc,kd,ke,kf⟩:=b;obtain ⟨px,py⟩:=p;unfold Mp.from_;simp only at ra rb rc rd re rf hx hy ⊢
 obtain ⟨U,hU⟩:∃ U,px - ke=U:=⟨_,rfl⟩
 obtain ⟨V,hV⟩:∃ V,py - kf=V:=⟨_,rfl⟩
 rw [hU,hV];have bu:-3221225472<=U∧U<=3221225472:=by omega
 have bv:-3221225472<=V∧V<=3221225472:=by omega
 have p1:=prod_bd3 ra.1 ra.2 bu.1 bu.2;have p2:=prod_bd3 rc.1 rc.2 bv.1 bv.2;have p3:=prod_bd3 rb.1 rb.2 bu.1 bu.2;have p4:=prod_bd3 rd.1 rd.2 bv.1 bv.2;have u1:wrap64 U=U:=IntWalk.wrap64_in _ (by omega);have u2:wrap64 V=V:=IntWalk.wrap64_in _ (by omega);have u3:IntKind.i64.wrap U=U:=IntWalk.i64_in _ (by omega);have u4:IntKind.i64.wrap V=V:=IntWalk.i64_in _ (by omega)
 obtain ⟨P1,hP1⟩:∃ P,ka*U=P:=⟨_,rfl⟩
 obtain ⟨P2,hP2⟩:∃ P,kc*V=P:=⟨_,rfl⟩
 obtain ⟨P3,hP3⟩:∃ P,kb*U=P:=⟨_,rfl⟩
 obtain ⟨P4,hP4⟩:∃ P,kd*V=P:=⟨_,rfl⟩
 rw [hP1] at p1;rw [hP2] at p2;rw [hP3] at p3;rw [hP4] at p4;rw [hP1,hP2,hP3,hP4]
 obtain ⟨S1,hS1⟩:∃ S,P1+P2=S:=⟨_,rfl⟩
 obtain ⟨S2,hS2⟩:∃ S,P3+P4=S:=⟨_,rfl⟩
 rw [hS1,hS2];have s1:-6917529027641081856<=S1∧S1<=6917529027641081856:=by omega
 have s2:-6917529027641081856<=S2∧S2<=6917529027641081856:=by omega
 have v1:IntKind.i64.wrap P1=P1:=IntWalk.i64_in _ (by omega);have v2:IntKind.i64.wrap P2=P2:=IntWalk.i64_in _ (by omega);have v3:IntKind.i64.wrap P3=P3:=IntWalk.i64_in _ (by omega);have v4:IntKind.i64.wrap P4=P4:=IntWalk.i64_in _ (by omega);have v5:IntKind.i64.wrap S1=S1:=IntWalk.i64_in _ (by omega);have v6:IntKind.i64.wrap S2=S2:=IntWalk.i64_in _ (by omega);have HW1:=Hd (fun w=>awhole_any S1 w (by omega) (by omega));have HW2:=Hd (fun w=>awhole_any S2 w (by omega) (by omega));generalize rnd S1 65536=z1 at *;generalize rnd S2 65536=z2 at *
 have HU:=Hd (And.intro u1 (And.intro u2 (And.intro hU hV)));clear ra rb rc rd re rf hx hy bu bv p1 p2 p3 p4 s1 s2;unfold Mp.v Pt.v;simp only;go_enter Tryz.func59,Tryz.ntmps59;go_wp2_with (fail)
 go_quiet (fail)
 clear hU hV u1 u2 u3 u4;have HB:Hid (Below w.heap.size w ((((w.alloc (.cells (Vd ka kb kc kd ke kf).toArray 67)).alloc (.cells #[.int .i64 px,.int .i64 py] 83)).alloc (.cells #[.int .i64 0,.int .i64 0] 83)).drewN nq)):=Below.drewN' (((bR.alloc nR _).alloc (by simp) _).alloc (by simp;omega) _) _
 have bm:Hid (Blk ((((w.alloc (.cells (Vd ka kb kc kd ke kf).toArray 67)).alloc (.cells #[.int .i64 px,.int .i64 py] 83)).alloc (.cells #[.int .i64 0,.int .i64 0] 83)).drewN nq) w.heap.size (Vd ka kb kc kd ke kf)):=(((blk_new w (Vd ka kb kc kd ke kf) _).alloc _).alloc _).drewN _;have br:Hid (Blk ((((w.alloc (.cells (Vd ka kb kc kd ke kf).toArray 67)).alloc (.cells #[.int .i64 px,.int .i64 py] 83)).alloc (.cells #[.int .i64 0,.int .i64 0] 83)).drewN nq) (w.heap.size+1+1) [.int .i64 0,.int .i64 0]):=(blk_at ((w.alloc _).alloc _) _ (by simp) [.int .i64 0,.int .i64 0] _).drewN _
 generalize ((((w.alloc (.cells (Vd ka kb kc kd ke kf).toArray 67)).alloc (.cells #[.int .i64 px,.int .i64 py] 83)).alloc (.cells #[.int .i64 0,.int .i64 0] 83)).drewN nq)=W1 at *;have HJS:Hid (JS w.heap.size [(w.heap.size,(Vd ka kb kc kd ke kf))] (w.heap.size+1+1) [.int .i64 0,.int .i64 0] [.int .i64 z1,.int .i64 z2] false W1.drew):=JS.start ⟨bm.out,trivial⟩ (by omega) br.out (by intro p hp;simp at hp;subst hp;simp;omega);clear bm br HU;go_wp2_with (fail)
 refine wR (Below w.heap.size) (fun L wx=>JS w.heap.size [(w.heap.size,(Vd ka kb kc kd ke kf))] (w.heap.size+1+1) [.int .i64 0,.int .i64 0] [.int .i64 z1,.int .i64 z2] (L 21) wx) [17,18,19,20,21,22,23,24,25,26,27,28,29,30,31,32,33,34,35,36,37] (fun _=>bR) (fun _ _ _ h k=>h.trans k) (fun i=>match i with
  |0=>rp w.heap.size 0
  |1=>rV (.int .i64 ka)
  |2|12=>rV (.int .i64 U)
  |3=>rV (.int .i64 P1)
  |4=>rp w.heap.size 2
  |5=>rV (.int .i64 kc)
  |6|16=>rV (.int .i64 V)
  |7=>rV (.int .i64 P2)
  |8=>rV (.int .i64 S1)
  |9=>rV (.int .i64 z1)
  |10=>rp w.heap.size 1
  |11=>rV (.int .i64 kb)
  |13=>rV (.int .i64 P3)
  |14=>rp w.heap.size 3
  |15=>rV (.int .i64 kd)
  |17=>rV (.int .i64 P4)
  |18=>rV (.int .i64 S2)
  |19=>rV (.int .i64 z2)
  |20=>rV (.agg #[.int .i64 z1,.int .i64 z2])
  | _=>ra) (bR.drew) (HJS.out) ⟨?_,?_,?_,?_,?_,?_,?_,?_,?_,?_,?_,?_,?_,?_,?_,?_,?_,?_,?_,?_,?_,?_,trivial⟩ ?_
 any_goals (first|refine zp fun L a w1 hh=>?_|fail)
 have h2:=hh.p 2 w.heap.size 0;rotate_left
 ·have h17:=rq (hh.d 0 17);obtain ⟨⟨c0,c1,c2,c3,c4,c5⟩,-,ci⟩:=(hh.st.1.1.1).c6;have hJ:=hh.j;clear hh;go_simp;exact ⟨_,rfl,bR,rfl,hJ.out⟩
 have h5:=hh.o 5 (v:=.int .i64 U) rfl;rotate_left;have h18:=rq (hh.d 1 18);have h19:=rq (hh.d 2 19);rotate_left;have h2:=hh.p 2 w.heap.size 0;rotate_left
 ·have h21:=rq (hh.d 4 21);obtain ⟨⟨c0,c1,c2,c3,c4,c5⟩,-,ci⟩:=(hh.st.1.1.1).c6;have hJ:=hh.j;clear hh;go_simp;exact ⟨_,rfl,bR,rfl,hJ.out⟩
 have h6:=hh.o 6 (v:=.int .i64 V) rfl;rotate_left;have h22:=rq (hh.d 5 22);have h23:=rq (hh.d 6 23);rotate_left;have h20:=rq (hh.d 3 20);have h24:=rq (hh.d 7 24);rotate_left
 ·have h25:=rq (hh.d 8 25);have:=True.intro;have hJ:=hh.j;clear hh;go_simp;refine (HW1.out w1).mono ?_;rintro e w9 ⟨rfl,hb9⟩;exact ⟨_,rfl,hb9.mono hJ.out.1.2.1,rfl,JS.below hJ.out hb9⟩
 have h2:=hh.p 2 w.heap.size 0;rotate_left
 ·have h27:=rq (hh.d 10 27);obtain ⟨⟨c0,c1,c2,c3,c4,c5⟩,-,ci⟩:=(hh.st.1.1.1).c6;have hJ:=hh.j;clear hh;go_simp;exact ⟨_,rfl,bR,rfl,hJ.out⟩
 have h5:=hh.o 5 (v:=.int .i64 U) rfl;rotate_left;have h28:=rq (hh.d 11 28);have h29:=rq (hh.d 12 29);rotate_left;have h2:=hh.p 2 w.heap.size 0;rotate_left
 ·have h31:=rq (hh.d 14 31);obtain ⟨⟨c0,c1,c2,c3,c4,c5⟩,-,ci⟩:=(hh.st.1.1.1).c6;have hJ:=hh.j;clear hh;go_simp;exact ⟨_,rfl,bR,rfl,hJ.out⟩
 have h6:=hh.o 6 (v:=.int .i64 V) rfl;rotate_left;have h32:=rq (hh.d 15 32);have h33:=rq (hh.d 16 33);rotate_left;have h30:=rq (hh.d 13 30);have h34:=rq (hh.d 17 34);rotate_left
 ·have h35:=rq (hh.d 18 35);have:=True.intro;have hJ:=hh.j;clear hh;go_simp;refine (HW2.out w1).mono ?_;rintro e w9 ⟨rfl,hb9⟩;exact ⟨_,rfl,hb9.mono hJ.out.1.2.1,rfl,JS.below hJ.out hb9⟩
 have h26:=rq (hh.d 9 26);have h36:=rq (hh.d 19 36);rotate_left
 ·have h4:=hh.o 4 (v:=.pointer (some ⟨w.heap.size+1+1,0,none⟩)) rfl;have h37:=rq (hh.d 20 37);have hB:=hh.st.2.2;rw [hh.un] at hB;obtain ⟨⟨c0,c1⟩,⟨f0,f1⟩,ci⟩:=(show Blk w1 (w.heap.size+1+1) [.int .i64 0,.int .i64 0] from hB).c2;have hP:=Hd (JS.put hh.st rfl hh.un);clear hh hB;go_simp;exact ⟨hP.out.2,⟨undef,trivial⟩,hP.out.1⟩
 any_goals (have hJ:=hh.j;clear hh;go_simp;exact ⟨_,rfl,bR,rfl,hJ.out⟩)
 intro L w2 val hL hJ hR hv;have hB2:=hJ.2.2;rw [hL 21 (by decide)] at hB2;have HN2:=Hd (show Blk w2 (w.heap.size+1+1) [.int .i64 z1,.int .i64 z2] from hB2);have HK2:=Hd hJ.1.1;clear hB2;have HR2:=Hd hR;clear hv hL hJ hR;simp only [regs.putAll,List.map_cons,List.map_nil];generalize val 17=v17;generalize val 18=v18;generalize val 19=v19;generalize val 20=v20;generalize val 21=v21;generalize val 22=v22;generalize val 23=v23;generalize val 24=v24;generalize val 25=v25;generalize val 26=v26;generalize val 27=v27;generalize val 28=v28;generalize val 29=v29;generalize val 30=v30
 generalize val 31=v31;generalize val 32=v32;generalize val 33=v33;generalize val 34=v34;generalize val 35=v35;generalize val 36=v36;generalize val 37=v37;simp only [Act.put,List.setIfInBounds_toArray,List.set_cons_zero,List.set_cons_succ];have B2:=Hd (HB.out.trans HR2.out);clear HB HR2 HK2 HJS;go_wp2_with (fail);exact blk_ret rfl rfl HN2.out Tryz.underlying83 rfl (by kernel_rfl) ⟨rfl,B2.out⟩
end Go.Proofs.YthoildbfghfhpaaGreat
namespace Go.Proofs.YthoildbfghfhpaaGreat
section
open Go.RowKit pxm imm trm Go.Maps
structure Cl where
 b:Mp
 r:Bx
 deriving DecidableEq
def Cl.cs (c:Cl):List Value:=[.int .i64 c.b.a,.int .i64 c.b.b,.int .i64 c.b.c,.int .i64 c.b.d,.int .i64 c.b.e,.int .i64 c.b.f,.int .i64 c.r.a,.int .i64 c.r.b,.int .i64 c.r.c,.int .i64 c.r.d]
theorem Cl.one (c:Cl):c.cs.all (·.oneCell')=true:=rfl
theorem Cl.cs_len (c:Cl):c.cs.length=10:=rfl
structure It where
 i:Int
 w:Mp
 b:Mp
 c:List Cl
 o:Nat
 lk:Lk
structure ItR where
 it:It
 Ac:Option Addr
 cc:Nat
 A:Option Addr
 c:Nat
def ItR.cs (q:ItR):List Value:=[.int .i64 q.it.i,.int .i64 q.it.w.a,.int .i64 q.it.w.b,.int .i64 q.it.w.c,.int .i64 q.it.w.d,.int .i64 q.it.w.e,.int .i64 q.it.w.f,.int .i64 q.it.b.a,.int .i64 q.it.b.b,.int .i64 q.it.b.c,.int .i64 q.it.b.d,.int .i64 q.it.b.e,.int .i64 q.it.b.f,.slice q.Ac q.it.c.length q.cc,.int .i64 (q.it.o:Nat),
 .int .i64 q.it.lk.k,.int .i64 q.it.lk.W,.int .i64 q.it.lk.H,.int .u32 (q.it.lk.p:Nat),.int .i64 q.it.lk.iw,.int .i64 q.it.lk.ih,.slice q.A q.it.lk.l.length q.c]
theorem ItR.cs_len (q:ItR):q.cs.length=22:=rfl
theorem ItR.one (q:ItR):q.cs.all (·.oneCell')=true:=rfl
structure It.Ok (q:It):Prop where
 b:q.b.right=true
 c:∀ c∈q.c,c.b.right=true
 few:q.c.length<=2000
 o:q.o<256
 lk:lkC q.lk.k q.lk.W q.lk.H q.lk.p q.lk.iw q.lk.ih q.lk.l=0
 l:q.lk.l.length<=300
 p:q.lk.p<4294967296
 z:∀ z∈q.lk.l,z<4294967296
structure ItAt (w:World) (q:ItR):Prop where
 clips:SRow 10 Cl.cs w q.Ac q.it.c
 px:Row eW w q.A q.it.lk.l
theorem ItAt.below {w w':World} {q:ItR} (h:ItAt w q) (hb:Below w.heap.size w w'):ItAt w' q:=⟨SRow.below h.clips hb,Row.below h.px hb⟩
def ctr (x y:Int):Pt:=⟨x*65536+32768,y*65536+32768⟩
def plc (b:Mp) (x y:Int):Int×Int:=((b.from_ (ctr x y)).x / 65536,(b.from_ (ctr x y)).y / 65536)
def Cl.has (c:Cl) (x y:Int):Bool:=c.r.has (plc c.b x y).1 (plc c.b x y).2
def It.free (q:It) (x y:Int):Bool:=q.c.all fun c=>c.has x y
def Lk.sz (q:Lk):Int×Int:=(szW q.k q.W q.iw,szW q.k q.H q.ih)
def It.covers (q:It) (x y:Int):Bool:=(Cl.mk q.b (Bx.nrm ⟨0,0,q.lk.sz.1,q.lk.sz.2⟩)).has x y&&q.free x y
def It.at_ (q:It) (x y:Int):Nat:=if q.free x y=true then ((frm (lkAt q.lk.k q.lk.W q.lk.H q.lk.p q.lk.iw q.lk.ih q.lk.l (plc q.b x y).1 (plc q.b x y).2)).times q.o).num else 0
end
section
open Go.RowKit pxm imm trm Go.Maps
theorem flat_par {t:T} {i:Int} {f:Int->List Int} (hf:∀ k,k∈kids t i->∀ pre x post,f k=pre++x::post->x=k∨par t x∈pre) (hk:∀ k∈kids t i,par t k=i) :
  ∀ (l:List Int),(∀ k∈l,k∈kids t i)->∀ pre x post,l.flatMap f=pre++x::post->par t x=i∨par t x∈pre:=by
 intro l
 induction l with
 | nil=>intro _ pre x post h;simp at h
 | cons k l ih=>
  intro hl pre x post h;rw [List.flatMap_cons] at h;have ih:=ih fun y hy=>hl y (List.mem_cons_of_mem _ hy);have hkk:=hl k List.mem_cons_self;rcases List.append_eq_append_iff.1 h with ⟨a,h1,h2⟩ | ⟨c,h1,h2⟩
  ·rcases ih a x post h2 with h3 | h3
   ·exact .inl h3
   ·exact .inr (by rw [h1];exact List.mem_append_right _ h3)
  ·cases c with
   | nil=>
    rw [List.append_nil] at h1;rcases ih [] x post (by simpa using h2.symm) with h3 | h3
    ·exact .inl h3
    ·cases h3
   | cons y c=>
    rw [List.cons_append] at h2
    injection h2 with h2 h3
    subst h2;rcases hf k hkk pre x c h1 with h4 | h4
    ·rw [h4];exact .inl (hk k hkk)
    ·exact .inr h4
theorem walkF_par {t:T} (ok:Ok t):∀ (n:Nat) (i:Int) (pre:List Int) (x:Int) (post:List Int),walkF t n i=pre++x::post->x=i∨par t x∈pre
 | 0,i,pre,x,post,h=>by rw [walkF] at h;simp at h
 | n+1,i,pre,x,post,h=>by
  rw [walkF] at h;cases pre with
  | nil=>
   rw [List.nil_append] at h
   injection h with h _
   exact .inl h.symm
  | cons y pre=>
   rw [List.cons_append] at h
   injection h with h1 h2
   subst h1;rcases flat_par (fun k _=>walkF_par ok n k) (fun k hk=>(ok.kid hk).2) _ (fun _ h=>h) pre x post h2 with h3 | h3
   ·exact .inr (by rw [h3];exact List.mem_cons_self)
   ·exact .inr (List.mem_cons_of_mem _ h3)
theorem walk_par {t:T} (ok:Ok t) {k:Nat} (hk:k<(trm.walk t 0).length):(trm.walk t 0)[k]=0∨par t (trm.walk t 0)[k]∈(trm.walk t 0).take k:=
 walkF_par ok _ 0 _ _ ((trm.walk t 0).drop (k+1)) (by
  show trm.walk t 0=_
  rw [← List.drop_eq_getElem_cons hk,List.take_append_drop])
structure Dn where
 b:Mp
 o:Nat
 c:List Cl
 deriving DecidableEq
def Dn.top:Dn:=⟨Mp.o,255,[]⟩
def Dn.to (d:Dn) (n:Nd) (w:Mp):Dn:=⟨w.back.1,by_ d.o n.op.toNat,if n.cl=true then ⟨w.back.1,n.r⟩::d.c else d.c⟩
def Dn.ok (d:Dn) (n:Nd) (w:Mp):Bool:=!n.hi&&(decide (w.back.2=0)&&decide (¬ by_ d.o n.op.toNat=0))
def Dn.step (n:Nd) (w:Mp) (d:Option Dn):Option Dn:=d.bind fun d=>if d.ok n w=true then some (d.to n w) else none
def downOf (x:PSc) (i:Int):Option Dn:=(line x.t i).foldr (fun j d=>Dn.step (x.nd j) (x.ws j) d) (Dn.step (x.nd 0) (x.ws 0) (some Dn.top))
theorem downOf_0 (x:PSc):downOf x 0=Dn.step (x.nd 0) (x.ws 0) (some Dn.top):=by unfold downOf;rw [line_0];rfl
theorem downOf_step {x:PSc} (ok:Ok x.t) {i:Int} (hi:i∈ids x.t):downOf x i=Dn.step (x.nd i) (x.ws i) (downOf x (par x.t i)):=by
 unfold downOf;rw [line_step ok hi];rfl
theorem op_lt {n:Nd} (h:n.chk=0):n.op.toNat<256∧n.op=(n.op.toNat:Nat):=by
 have:=(ndC_zero h).2.1;omega
def itemOf (x:PSc) (i:Int):Option It:=(downOf x i).bind fun d=>if (x.nd i).lk.k=0 then none else some ⟨i,x.ws i,d.b,d.c.reverse,d.o,(x.nd i).lk⟩
def items (x:PSc):List It:=(trm.walk x.t 0).filterMap (itemOf x)
theorem filterMap_snoc {α β:Type} (f:α->Option β) {l:List α} {k:Nat} (hk:k<l.length):(l.take (k+1)).filterMap f=(l.take k).filterMap f++(f l[k]).toList:=by
 rw [List.take_succ_eq_append_getElem hk,List.filterMap_append]
 congr 1
end
end Go.Proofs.YthoildbfghfhpaaGreat
