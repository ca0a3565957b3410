import Derived.Test.YthpifjcddgmjnaaGreatVScO
set_option maxHeartbeats 16000000
set_option maxRecDepth 100000
namespace Go.Proofs.YthpifjcddgmjnaaGreat
open Go.RowKit pxm imm trm Go.Maps
abbrev tSpot:TypeId:=328
structure Sp where
 e:S3
 n:Nd
 A:Option Addr
 c:Nat
 u:Mp
def Sp.cs (q:Sp):List Value:=spcs q.e.1 q.e.2.1 q.e.2.2 q.n q.A q.c q.u
theorem Sp.cs_len (q:Sp):q.cs.length=29:=rfl
theorem Sp.cs_plain (q:Sp):∀ u∈q.cs,u.oneCell'=true:=fun u hu=>List.all_eq_true.1 (spcs_one _ _ _ _ _ _ _) u hu
def z29:List Value:=spcs 0 0 0 Nd.zero none 0 Mp.o
theorem info_spot:(Tryz.prog.info? tSpot).map (fun i=>(i.zero,i.size,i.bytes))=some (some (.agg z29.toArray),29,240):=by kernel_rfl
theorem wp_bs {P:Program} {op:Oper} {a:Act} {w w':World} {K:Act→World→Prop} {Q:Exit→Act→World→Prop} (t:TypeId) (n:Nat) (parts:Array (Nat×Operand)) (ho:op.op=.buildSlice t n parts) {vals:Array (Nat×Value)} (hv:(parts.map fun q=>(q.1,a.eval q.2))=vals) {v:Value} (hrun:(Instr.buildSlice t n vals).run P w=.ok v w')
  (h:K (a.put op.dst v) w'):op.wp P a w K Q:=by
 subst hv
 unfold Oper.wp execOp
 simp only [ho,Sem.run_bind,Result.andThen_ok,hrun]
 exact h
theorem wpl_bs {P:Program} {ops:Array Oper} {rest:List Oper} {o:Oper} {a:Act} {Q:Exit→Act→World→Prop} {w w':World} (t:TypeId) (n:Nat) (parts:Array (Nat×Operand)) (ho:o.op=.buildSlice t n parts) (hgd:Region.wanted o (yielded ops a.tmps)=true) {vals:Array (Nat×Value)} (hv:(parts.map fun q=>(q.1,a.eval q.2))=vals) {v:Value} (hrun:(Instr.buildSlice t n vals).run P w=.ok v w')
  (h:wpList P ops Q rest (a.put o.dst v) w'):wpList P ops Q (o :: rest) a w:=by
 unfold wpList
 rw [if_pos hgd]
 exact .inl (wp_bs t n parts ho hv hrun h)
theorem bs_spot (q:Sp) (w:World):(Instr.buildSlice 325 1 #[(0,.agg q.cs.toArray)]).run Tryz.prog w=.ok (.slice (some ⟨w.heap.size,0,none⟩) 1 1) (w.alloc (.cells q.cs.toArray tSpot)):=by kernel_rfl
abbrev SpOwn (w:World) (base:Nat) (v:Value) (l:List Sp):Prop:=SOwn tSpot 29 Sp.cs w base v l
structure SpOk (E:Bset) (x:PSc) (S:Bset) (w:World) (q:Sp):Prop where
 n:q.n=ndAt x q.e.1
 u:q.u=wsAt x q.e.1
 off:NdOff E S w q.n q.A
theorem SpOk.turn {E:Bset} {x:PSc} {S S':Bset} {w w':World} {q:Sp} (h:SpOk E x S w q) (ht:TurnP S S' w w'):SpOk E x S' w' q:=⟨h.n,h.u,h.off.turn ht⟩
def BI (t:T) (f:S3) (k:Nat) (l:List S3):Prop:=(has t f.1=true∧BQ t f k l)∨(has t f.1=false∧l=[f]∧k≤1)
theorem BI.start (t:T) (f:S3):BI t f 0 [f]:=by
 by_cases h:has t f.1=true
 ·exact .inl ⟨h,BQ.start h⟩
 ·exact .inr ⟨by simpa using h,rfl,Nat.zero_le _⟩
theorem BI.next {t:T} (ok:Ok t) {f:S3} {k:Nat} {l:List S3} (h:BI t f k l) (hk:k < l.length):BI t f (k + 1) (l++grp t l[k].1):=by
 rcases h with ⟨h1,h2⟩ | ⟨h1,h2,h3⟩
 ·exact .inl ⟨h1,h2.next ok hk⟩
 ·subst h2
  have hk0:k=0:=by simp at hk; omega
  subst hk0
  refine .inr ⟨h1,?_,by omega⟩
  have:kids t f.1=[]:=kids_none ok (by rw [h1]; simp)
  show [f]++grp t f.1=[f]
  unfold grp
  rw [this]
  rfl
theorem BI.len {t:T} {f:S3} {k:Nat} {l:List S3} (h:BI t f k l):l.length≤t.length + 1:=by
 rcases h with ⟨_,h2⟩ | ⟨_,h2,_⟩
 ·exact h2.len
 ·rw [h2]; simp
def SpotsQ (E S:Bset) (x:PSc) (ci:Int) (w:World) (e:Ending) (w':World):Prop:=
 ∃ v l,e=.returned v∧SpOwn w' w.heap.size v l∧Below w.heap.size w w'∧(∃ k,BI x.t (ci,par x.t ci,idx (kids x.t (par x.t ci)) ci) k (l.map (·.e))∧l.length≤k)∧∀ q∈l,SpOk E x S w' q
def Ow (v:Value):Bset:=fun k=>v.ownBlock=some k
theorem SOwn.typed2 {α:Type} {T:TypeId} {k:Nat} {enc:α→List Value} {w:World} {base:Nat} {v:Value} {l:List α} (h:SOwn T k enc w base v l) {g:Nat} (hg:v.ownBlock=some g):∃ cur fr,w.heap[g]?=some (.cells cur T fr):=by
 rcases h.2 with ⟨rfl,h0⟩ | ⟨g',cap,cur,rfl,_,hb,_⟩
 ·cases hg
 ·obtain rfl:g'=g:=Option.some.inj hg
  exact ⟨cur,_,hb⟩
structure SpJ (base:Nat) (v:Value) (l:List Sp) (sp:Sp) (i0 i2 i6 i14 iB iA iW:Bool) (xb xa v5:Value) (w0 w:World):Prop where
 rel:TurnP (Ow v) (Ow v) w0 w
 bsz:base≤w.heap.size
 own:SpOwn w base (bif iA then xa else v) (bif iA then l++[sp] else l)
 blt:iB=true→iA=false→∃ gb,xb=.slice (some ⟨gb,0,none⟩) 1 1∧BlkT w gb sp.cs tSpot
 o1:iA=true→iB=true
 o2:iB=true→i14=true
 o3:i14=true→i6=true
 no:iW=false→v5=v
 ow:iW=true→i0=true∧i2=true
 ww:iW=true→iA=true∧v5=xa
 new:iA=true→∀ k,xa.ownBlock=some k→v.ownBlock=some k∨w0.heap.size≤k
section
variable {base:Nat} {v:Value} {l:List Sp} {sp:Sp} {i0 i2 i6 i14 iB iA iW:Bool} {xb xa v5:Value} {w0 w w':World}
theorem SpJ.slots {ub ua u5:Value} (h:SpJ base v l sp i0 i2 i6 i14 iB iA iW xb xa v5 w0 w) (e1:ub=xb) (e2:ua=xa) (e3:u5=v5):SpJ base v l sp i0 i2 i6 i14 iB iA iW ub ua u5 w0 w:=by rw [e1,e2,e3]; exact h
theorem SpJ.f0 (h:SpJ base v l sp i0 i2 i6 i14 iB iA iW xb xa v5 w0 w):SpJ base v l sp true i2 i6 i14 iB iA iW xb xa v5 w0 w:=⟨h.rel,h.bsz,h.own,h.blt,h.o1,h.o2,h.o3,h.no,fun e=>⟨rfl,(h.ow e).2⟩,h.ww,h.new⟩
theorem SpJ.f2 (h:SpJ base v l sp i0 i2 i6 i14 iB iA iW xb xa v5 w0 w):SpJ base v l sp i0 true i6 i14 iB iA iW xb xa v5 w0 w:=⟨h.rel,h.bsz,h.own,h.blt,h.o1,h.o2,h.o3,h.no,fun e=>⟨(h.ow e).1,rfl⟩,h.ww,h.new⟩
theorem SpJ.f6 (h:SpJ base v l sp i0 i2 i6 i14 iB iA iW xb xa v5 w0 w):SpJ base v l sp i0 i2 true i14 iB iA iW xb xa v5 w0 w:=⟨h.rel,h.bsz,h.own,h.blt,h.o1,h.o2,fun _=>rfl,h.no,h.ow,h.ww,h.new⟩
theorem SpJ.f14 (h:SpJ base v l sp i0 i2 i6 i14 iB iA iW xb xa v5 w0 w) (e:i6=true):SpJ base v l sp i0 i2 i6 true iB iA iW xb xa v5 w0 w:=⟨h.rel,h.bsz,h.own,h.blt,h.o1,fun _=>rfl,fun _=>e,h.no,h.ow,h.ww,h.new⟩
theorem SpJ.noB (h:SpJ base v l sp i0 i2 i6 i14 iB iA iW xb xa v5 w0 w) (e:iB=false):iA=false:=by
 cases hA:iA with
 | false=>rfl
 | true=>have:=h.o1 hA; rw [e] at this; cases this
theorem SpJ.no6 (h:SpJ base v l sp i0 i2 i6 i14 iB iA iW xb xa v5 w0 w) (e:i6=false):iA=false:=h.noB (by
 cases hB:iB with
 | false=>rfl
 | true=>have:=h.o3 (h.o2 hB); rw [e] at this; cases this)
theorem SpJ.old (h:SpJ base v l sp i0 i2 i6 i14 iB iA iW xb xa v5 w0 w) (e:i0=false∨i2=false):v5=v:=h.no (by
 cases hW:iW with
 | false=>rfl
 | true=>have:=h.ow hW; rcases e with e | e <;> simp [e] at this)
theorem SpJ.make (h:SpJ base v l sp i0 i2 i6 i14 iB iA iW xb xa v5 w0 w) (_:iB=false) (e14:i14=true):SpJ base v l sp i0 i2 i6 i14 true iA iW (.slice (some ⟨w.heap.size,0,none⟩) 1 1) xa v5 w0 (w.alloc (.cells sp.cs.toArray tSpot))∧TurnP (Ow v) (Ow v) w (w.alloc (.cells sp.cs.toArray tSpot)):=by
 have hb:Below w.heap.size w (w.alloc (.cells sp.cs.toArray tSpot)):=(Below.refl _ _).alloc (Nat.le_refl _) _
 exact ⟨⟨h.rel.trans (TurnP.below hb),Nat.le_trans h.bsz hb.size,SOwn.below h.own hb,fun _ _=>⟨_,rfl,BlkT.new w sp.cs tSpot⟩,fun _=>rfl,fun _=>e14,h.o3,h.no,h.ow,h.ww,h.new⟩,TurnP.below hb⟩
theorem SpJ.app (h:SpJ base v l sp i0 i2 i6 i14 iB iA iW xb xa v5 w0 w) (eB:iB=true) (eA:iA=false) (hn:l.length≤100000) :
  ∃ v' w',(Builtin.append_ #[325,325] 325 #[v,xb]).run Tryz.prog w=.ok v' w'∧SpJ base v l sp i0 i2 i6 i14 iB true iW xb v' v5 w0 w'∧TurnP (Ow v) (Ow v) w w':=by
 obtain ⟨gb,e,hg⟩:=h.blt eB eA
 subst eA
 have hw:iW=false:=by
  cases hW:iW with
  | false=>rfl
  | true=>have:=(h.ww hW).1; cases this
 subst hw
 have hrow:SRow 29 Sp.cs w (some ⟨gb,0,none⟩) [sp]:=fun _=>⟨gb,0,rfl,fun j hj i u hu=>by
  have hj0:j=0:=by simp at hj; omega
  subst hj0
  have:=hg.blk.cell i
  simp only [List.getElem_cons_zero] at hu
  rw [hu] at this
  simpa using this⟩
 obtain ⟨v',w',h1,h2,h3,h4⟩:=SOwn.app (P:=Tryz.prog) (xs:=[sp]) (c:=1) Tryz.underlying325 info_spot rfl (by decide) (by decide) Sp.cs_len Sp.cs_plain (show SpOwn w base v l from h.own) (fun _=>hrow) (by simp; omega) h.bsz
 have ht:TurnP (Ow v) (Ow v) w w':=TurnP.grown h3 fun k hk=>hk
 rw [e]
 refine ⟨v',w',h1,⟨h.rel.trans ht,Nat.le_trans h.bsz h3.size,h2,fun _ k=>(nomatch k),fun _=>eB,h.o2,h.o3,h.no,h.ow,fun k=>(nomatch k),fun _ k hk=>?_⟩,ht⟩
 rcases h4 with e4 | e4
 ·exact .inl (e4 ▸ hk)
 ·have:=Option.some.inj (e4.symm.trans hk)
  have:=h.rel.size
  exact .inr (by omega)
theorem SpJ.put (h:SpJ base v l sp i0 i2 i6 i14 iB iA iW xb xa v5 w0 w) (eA:iA=true) (e0:i0=true) (e2:i2=true):SpJ base v l sp i0 i2 i6 i14 iB iA true xb xa xa w0 w:=
 ⟨h.rel,h.bsz,h.own,h.blt,h.o1,h.o2,h.o3,fun e=>(nomatch e),fun _=>⟨e0,e2⟩,fun _=>⟨eA,rfl⟩,h.new⟩
end
def sayL (l:List Int) (base:Nat):regs.Say regs.bl:=⟨fun x w=>IOwn w base x l,fun _ _ _ h hb=>SOwn.below h hb⟩
section
variable {w:World} {g b m:Nat} {s:Sh} {Z:ZZ} {x:PSc}
theorem spots_any (h:SceneAt w g b m s Z x) (hn:x.t.length≤1000) (ci:Int) (hi:I64 ci) :
  Calls Tryz.prog 210 #[.pointer (some ⟨g,0,none⟩),.int .i64 ci] w (SpotsQ Z.3 (SFoot b m s x.t) x ci w):=by
 have HS:=Hd h
 have HN:=Hd hn
 have HI:=Hd hi
 have HSP:=Hd (spot_any h hn ci hi)
 unfold SpotQ at HSP
 clear h hn hi
 go_enter Tryz.func210,Tryz.ntmps210
 go_wp2_with (fail)
 refine HSP.out.mono ?_
 rintro e w2 ⟨A,c,rfl,hnd,hb2⟩
 have HND:=Hd hnd
 have HB2:=Hd hb2
 clear hnd hb2 HSP
 obtain ⟨q0,hq0⟩:∃ q0:Sp,q0=⟨(ci,par x.t ci,idx (kids x.t (par x.t ci)) ci),ndAt x ci,A,c,wsAt x ci⟩:=⟨_,rfl⟩
 have HQ0:=Hd hq0
 have e0:spcs ci (par x.t ci) (idx (kids x.t (par x.t ci)) ci) (ndAt x ci) A c (wsAt x ci)=q0.cs:=by rw [hq0]; rfl
 rw [e0]
 clear e0 hq0
 go_wp2_with ((with_reducible show wpList _ _ _ (Oper.mk _ (Op.buildSlice _ _ _) _ _ _ _ :: _) _ _); refine wpl_bs _ _ _ rfl rfl (by simp [go_sem]) (bs_spot q0 _) ?_)
 obtain ⟨w3,hw3⟩:∃ w3,w3=w2.alloc (.cells q0.cs.toArray tSpot):=⟨_,rfl⟩
 have hb3:Below w2.heap.size w2 w3:=by rw [hw3]; exact (Below.refl _ _).alloc (Nat.le_refl _) _
 have HB3:Hid (Below w.heap.size w w3):=HB2.out.trans (hb3.mono HB2.out.size)
 have HO3:Hid (SpOwn w3 w.heap.size (.slice (some ⟨w2.heap.size,0,none⟩) 1 1) [q0]):=by
  rw [hw3]
  have:=SOwn.lit (T:=tSpot) (enc:=Sp.cs) Sp.cs_len w2 [q0] HB2.out.size (by unfold maxLen; simp)
  rw [show ([q0]:List Sp).flatMap Sp.cs=q0.cs from by simp] at this
  exact this
 have HQ3:Hid (∀ q∈[q0],SpOk Z.3 x (SFoot b m s x.t) w q):=fun q hq=>by
  rw [List.mem_singleton.1 hq,HQ0.out]
  exact ⟨rfl,rfl,HND.out⟩
 have HBI:Hid (BI x.t (ci,par x.t ci,idx (kids x.t (par x.t ci)) ci) 0 ([q0].map (·.e))):=by
  have:([q0].map (·.e))=[(ci,par x.t ci,idx (kids x.t (par x.t ci)) ci)]:=by rw [HQ0.out]; rfl
  rw [this]
  exact BI.start _ _
 obtain ⟨f,hf⟩:∃ f:S3,(ci,par x.t ci,idx (kids x.t (par x.t ci)) ci)=f:=⟨_,rfl⟩
 have HF:=Hd hf
 rw [hf] at HBI
 rw [← hw3]
 clear hb3 hf HND HB2 HQ0 hw3
 generalize w2.heap.size=r0 at *
 have HOK:=Hd HS.out.tree.ok
 have FS:Hid (∀ W,Below w.heap.size w W→SceneAt W g b m s Z x):=fun W hb=>HS.out.below hb
 go_loopw [6,5] (fun x6 x5 wr=>∃ (k:Nat) (A:Option Addr) (c:Nat) (l:List Sp),x6=.int .i64 k∧x5=.slice A l.length c∧Hid (SpOwn wr w.heap.size (.slice A l.length c) l)∧Hid (BI x.t f k (l.map (·.e))∧k≤l.length)∧Hid (∀ q∈l,SpOk Z.3 x (SFoot b m s x.t) w q)∧Hid (Below w.heap.size w wr)) (fun x6 _ _=>x.t.length + 2 - (intOf x6).toNat)
 case atStart=>exact ⟨0,_,_,[q0],rfl,rfl,HO3.out,⟨HBI.out,Nat.zero_le _⟩,HQ3.out,HB3.out⟩
 case round=>
  obtain ⟨k,A,c,l,rfl,rfl,HO,HK,HQ,HB⟩:=hrel
  generalize wr=wA at *
  clear HO3 HBI HQ3 HB3
  have HLL:Hid (l.length≤x.t.length + 1):=by have:=HK.out.1.len; rwa [List.length_map] at this
  have hll:(l.length:Int)≤100000:=by have:=HLL.out; have:=HN.out; omega
  by_cases hlt:k < l.length
  ·have t1:decide (k < l.length)=true:=by simpa using hlt
   have HLT:=Hd hlt
   obtain ⟨A',c',ev,-,-,hrow⟩:=SOwn.row HO.out Sp.cs_len
   obtain ⟨lb,lo,eA,hcell⟩:=hrow (by omega)
   have ec:A'=A:=by injection ev with e1 _ _; exact e1.symm
   subst ec
   subst eA
   have HCE:=Hd (fun W (hb:regs.bl wA W)=>(Below.cell hb (p:=⟨lb,lo + k * 29 + 0,none⟩) (World.block_lt_of_cell? wA ⟨lb,_,none⟩ (hcell k hlt 0 _ rfl))).trans (hcell k hlt 0 (.int .i64 (l[k]).e.1) rfl))
   obtain ⟨y,hy⟩:∃ y,(l[k]).e.1=y:=⟨_,rfl⟩
   rw [hy] at HCE
   have HBN:Hid (BI x.t f (k + 1) (l.map (·.e)++grp x.t y)):=by
    have h:=HK.out.1.next HOK.out (k:=k) (by simpa using hlt)
    simp only [List.getElem_map] at h
    rw [← hy]
    exact h
   have HLY:Hid (∀ h:k < l.length,(l[k]).e.1=y):=fun _=>hy
   have HY64:Hid (I64 y):=by
    rw [← hy]
    rcases HK.out.1 with ⟨-,h2⟩ | ⟨-,h2,-⟩
    ·exact has_64 HOK.out (h2.deep _ (by rw [List.mem_map]; exact ⟨l[k],List.getElem_mem hlt,rfl⟩)).2
    ·have:(l[k]).e=f:=by have:=List.mem_singleton.1 (h2 ▸ (List.mem_map_of_mem (f:=fun q:Sp=>q.e) (List.getElem_mem hlt))); exact this
     rw [this,← HF.out]
     exact HI.out
   clear ev hrow hcell hy
   have FSA:Hid (∀ W,regs.bl wA W→SceneAt W g b m s Z x):=fun W hb=>FS.out W (HB.out.trans (Below.mono hb HB.out.size))
   have HKC:Hid (∀ W,regs.bl wA W→Calls Tryz.prog 319 #[.pointer (some ⟨b,0,none⟩),.int .i64 y] W (KidsQ (kids x.t y) W)):=fun W hb=>tkids (FSA.out W hb).tree (by have:=HN.out; omega) y HY64.out
   unfold KidsQ at HKC
   go_wp2_with (fail)
   refine regs.wp_region_put (regs.bl) (regs.noJ) [19,20,21,22,23,24,25,26,27,28,29,30,31,32] (by kernel_rfl) (by kernel_rfl) (fun _=>regs.bl_refl _) (regs.bl_trans) (fun i=>(match i with
    | 0=>regs.Say.val _ (.pointer (some ⟨g,0,none⟩))
    | 1=>regs.Say.val _ (.pointer (some ⟨g,0,none⟩))
    | 2=>regs.Say.val _ (.pointer (some ⟨g,0,none⟩))
    | 3=>regs.Say.val _ (.iface 109 (.pointer (some ⟨b,0,none⟩)))
    | 4=>regs.Say.val _ (.slice (some ⟨lb,lo,none⟩) l.length c)
    | 5=>regs.Say.val _ (.int .i64 (k:Nat))
    | 6=>regs.Say.val _ (.pointer (some ⟨lb,(lo + k * 29),none⟩))
    | 7=>regs.Say.val _ (.pointer (some ⟨lb,(lo + k * 29),none⟩))
    | 8=>regs.Say.val _ (.int .i64 y)
    | 9=>regs.Say.val _ (.iface 109 (.pointer (some ⟨b,0,none⟩)))
    | 10=>regs.Say.val _ (.iface 109 (.pointer (some ⟨b,0,none⟩)))
    | 11=>sayL (kids x.t y) wA.heap.size
    | 12=>regs.Say.val _ (.int .i64 ((kids x.t y).length:Nat))
    | 13=>regs.Say.val _ (.int .i64 0)
    | _=>regs.Say.any _:regs.Say (regs.bl)).p) (fun _=>regs.Say.mono _) (by kernel_rfl) ((Below.refl _ _).drew) (regs.noJ_ok _ _) ⟨?_,?_,?_,?_,?_,?_,?_,?_,?_,?_,?_,?_,?_,?_,trivial⟩ ?_
   ·refine regs.StepOK.plain rfl fun L a w1 hh=>?_
    have h0:a.tmps[0]?.getD undef=.pointer (some ⟨g,0,none⟩):=rq (hh.old 0 rfl)
    have hJ:=Hd hh.st; clear hh; go_simp; exact ⟨_,rfl,regs.bl_refl _,rfl,hJ.out⟩
   ·refine regs.StepOK.plain rfl fun L a w1 hh=>?_
    have h19:=rq (hh.dep 0 19 (by kernel_rfl) (by kernel_rfl))
    have hJ:=Hd hh.st; clear hh; go_simp; exact ⟨_,rfl,regs.bl_refl _,rfl,hJ.out⟩
   ·refine regs.StepOK.plain rfl fun L a w1 hh=>?_
    have h20:=rq (hh.dep 1 20 (by kernel_rfl) (by kernel_rfl))
    have i0:=((FSA.out _ hh.rel).blk.blk).inside
    have hJ:=Hd hh.st; clear hh; go_simp; exact ⟨_,rfl,regs.bl_refl _,rfl,hJ.out⟩
   ·refine regs.StepOK.plain rfl fun L a w1 hh=>?_
    have h21:=rq (hh.dep 2 21 (by kernel_rfl) (by kernel_rfl))
    have hB:=Hd ((FSA.out _ hh.rel).blk.blk)
    have c0:w1.cell? ⟨g,0,none⟩=some (.iface 109 (.pointer (some ⟨b,0,none⟩))):=hB.out.cell 0
    have i0:=hB.out.inside
    have hJ:=Hd hh.st; clear hh; go_simp; exact ⟨_,rfl,regs.bl_refl _,rfl,hJ.out⟩
   ·refine regs.StepOK.plain rfl fun L a w1 hh=>?_
    have h5:a.tmps[5]?.getD undef=.slice (some ⟨lb,lo,none⟩) l.length c:=rq (hh.old 5 rfl)
    have hJ:=Hd hh.st; clear hh; go_simp; exact ⟨_,rfl,regs.bl_refl _,rfl,hJ.out⟩
   ·refine regs.StepOK.plain rfl fun L a w1 hh=>?_
    have h6:a.tmps[6]?.getD undef=.int .i64 (k:Nat):=rq (hh.old 6 rfl)
    have hJ:=Hd hh.st; clear hh; go_simp; exact ⟨_,rfl,regs.bl_refl _,rfl,hJ.out⟩
   ·refine regs.StepOK.plain rfl fun L a w1 hh=>?_
    have h23:=rq (hh.dep 4 23 (by kernel_rfl) (by kernel_rfl))
    have h24:=rq (hh.dep 5 24 (by kernel_rfl) (by kernel_rfl))
    have hlt:=HLT.out
    have hJ:=Hd hh.st; clear hh; go_simp; exact ⟨_,rfl,regs.bl_refl _,rfl,hJ.out⟩
   ·refine regs.StepOK.plain rfl fun L a w1 hh=>?_
    have h25:=rq (hh.dep 6 25 (by kernel_rfl) (by kernel_rfl))
    have c0:=HCE.out _ hh.rel
    have i0:=World.block_lt_of_cell? w1 ⟨lb,_,none⟩ c0
    clear c0
    have hJ:=Hd hh.st; clear hh; go_simp; exact ⟨_,rfl,regs.bl_refl _,rfl,hJ.out⟩
   ·refine regs.StepOK.plain rfl fun L a w1 hh=>?_
    have h26:=rq (hh.dep 7 26 (by kernel_rfl) (by kernel_rfl))
    have c0:=HCE.out _ hh.rel
    simp only [Nat.add_zero] at c0
    have i0:=World.block_lt_of_cell? w1 ⟨lb,_,none⟩ c0
    have hJ:=Hd hh.st; clear hh; go_simp; exact ⟨_,rfl,regs.bl_refl _,rfl,hJ.out⟩
   ·refine regs.StepOK.plain rfl fun L a w1 hh=>?_
    have h22:=rq (hh.dep 3 22 (by kernel_rfl) (by kernel_rfl))
    have hJ:=Hd hh.st; clear hh; go_simp; exact ⟨_,rfl,regs.bl_refl _,rfl,hJ.out⟩
   ·refine regs.StepOK.plain rfl fun L a w1 hh=>?_
    have h22:=rq (hh.dep 3 22 (by kernel_rfl) (by kernel_rfl))
    have hJ:=Hd hh.st; clear hh; go_simp; exact ⟨_,rfl,regs.bl_refl _,rfl,hJ.out⟩
   ·refine regs.StepOK.plain rfl fun L a w1 hh=>?_
    have h27:=rq (hh.dep 8 27 (by kernel_rfl) (by kernel_rfl))
    have h29:=rq (hh.dep 10 29 (by kernel_rfl) (by kernel_rfl))
    have hinv:=inv_kids (.pointer (some ⟨b,0,none⟩))
    have hC:=Hd (HKC.out _ hh.rel)
    have hsz:=Hd (show wA.heap.size≤w1.heap.size from Below.size hh.rel)
    have hJ:=Hd hh.st; clear hh; go_simp; refine hC.out.mono ?_
    rintro e w9 ⟨v9,rfl,ho9,hb9⟩
    exact ⟨_,rfl,hb9,SOwn.weaken ho9 hsz.out,hJ.out⟩
   ·refine regs.StepOK.plain rfl fun L a w1 hh=>?_
    obtain ⟨A9,c9,e9,-,-,-⟩:=IOwn.irow (hh.dep 11 30 (by kernel_rfl) (by kernel_rfl))
    have h30:a.tmps[30]?.getD undef=.slice A9 (kids x.t y).length c9:=rq (e9)
    clear e9
    have hJ:=Hd hh.st; clear hh; go_simp; exact ⟨_,rfl,regs.bl_refl _,rfl,hJ.out⟩
   ·refine regs.StepOK.plain rfl fun L a w1 hh=>?_
    have hJ:=Hd hh.st; clear hh; go_simp; exact ⟨_,rfl,regs.bl_refl _,rfl,hJ.out⟩
   intro L w5 val hL hJ hR hv
   have h31:val 31=.int .i64 ((kids x.t y).length:Nat):=hv 12 31 (by kernel_rfl)
   have h32:val 32=.int .i64 0:=hv 13 32 (by kernel_rfl)
   have HR5:=Hd hR
   have hk30:IOwn w5 wA.heap.size (val 30) (kids x.t y):=hv 11 30 (by kernel_rfl)
   obtain ⟨KA,KC,e30,-,-,-⟩:=IOwn.irow hk30
   rw [e30] at hk30
   have HKO:=Hd hk30
   clear hv hL hJ hR hk30
   simp only [regs.putAll,List.map_cons,List.map_nil,h31,h32]
   simp only [Act.put,List.setIfInBounds_toArray,List.set_cons_zero,List.set_cons_succ]
   clear h31 h32
   generalize val 19=v19,val 20=v20,val 21=v21,val 22=v22,val 23=v23,val 24=v24,val 25=v25,val 26=v26,val 27=v27,val 28=v28,val 29=v29 at *
   rw [e30]
   clear e30
   have HO5:=Hd (SOwn.below HO.out HR5.out)
   have HQ5:=HQ
   have HB5:Hid (Below w.heap.size w w5):=HB.out.trans (Below.mono HR5.out HB.out.size)
   have HKL:Hid ((kids x.t y).length≤1000):=by show _≤_; have:=kids_le x.t y; have:=HN.out; omega
   have HL5:Hid (l.map (·.e)++grp x.t y=(l.map (·.e)++(grp x.t y).take (kids x.t y).length)):=by show _=_; rw [List.take_of_length_le (by rw [grp_len]; exact Nat.le_refl _)]
   clear HO HQ HB HKC FSA HR5 hlt
   go_wp2_with (fail)
   go_loopw [32,5] (fun x32 x5 wr=>∃ (j:Nat) (A:Option Addr) (c:Nat) (l2:List Sp),j≤(kids x.t y).length∧x32=.int .i64 j∧x5=.slice A l2.length c∧Hid (SpOwn wr w.heap.size (.slice A l2.length c) l2)∧Hid (l2.map (·.e)=l.map (·.e)++(grp x.t y).take j)∧Hid (∀ q∈l2,SpOk Z.3 x (SFoot b m s x.t) w q)∧Hid (Below w.heap.size w wr)∧Hid (IOwn wr wA.heap.size (.slice KA (kids x.t y).length KC) (kids x.t y))) (fun x32 _ _=>(kids x.t y).length - (intOf x32).toNat)
   case atStart=>exact ⟨0,_,_,l,Nat.zero_le _,rfl,rfl,HO5.out,by show _=_; simp,HQ5.out,HB5.out,HKO.out⟩
   case round=>
    obtain ⟨j,A,c2,l2,hj,rfl,rfl,HO,HE,HQ,HB,HKW⟩:=hrel
    generalize wr=wB at *
    clear HO5 HQ5 HB5 HKO
    have hjb:(j:Int)≤100000:=by have:=HKL.out; omega
    by_cases hlt:j < (kids x.t y).length
    ·have t2:decide (j < (kids x.t y).length)=true:=by simpa using hlt
     obtain ⟨KA',KC',kev,-,-,krow⟩:=IOwn.irow HKW.out
     obtain ⟨kb,ko,rA,kc⟩:=krow.at_ hlt
     have kec:KA'=KA:=by injection kev with e1 _ _; exact e1.symm
     subst kec
     subst rA
     have hkid:(kids x.t y)[j]∈kids x.t y:=List.getElem_mem hlt
     have HKI:Hid (I64 (kids x.t y)[j]):=has_64 HOK.out (has_iff.2 (.inr (HOK.out.kid hkid).1))
     have HTK:Hid ((grp x.t y).take (j + 1)=(grp x.t y).take j++[((kids x.t y)[j],y,(j:Int))]):=by
      show _=_
      rw [List.take_succ_eq_append_getElem (by rw [grp_len]; exact hlt),grp_at]
     unfold eI at kc
     have HKJ:=Hd hlt
     clear kev krow hkid
     generalize (kids x.t y)[j]=z at *
     -- the row that is gone on from
     have HLN:Hid (l2.length≤x.t.length + 1∧k < l2.length):=by
      have h1:=congrArg List.length HE.out
      rw [List.length_map,List.length_append,List.length_map,List.length_take,grp_len] at h1
      have h2:=HBN.out.len
      rw [List.length_append,List.length_map,grp_len] at h2
      have:=HLT.out
      show _∧_
      omega
     have hlt2:=HLN.out.2
     have HLY2:Hid ((l2[k]).e.1=y):=by
      have h1:(l2.map (·.e))[k]?=(l.map (·.e)++(grp x.t y).take j)[k]?:=by rw [HE.out]
      rw [List.getElem?_append_left (by rw [List.length_map]; exact HLT.out),List.getElem?_map,List.getElem?_map,List.getElem?_eq_getElem hlt2,List.getElem?_eq_getElem HLT.out] at h1
      have h2:=Option.some.inj h1
      have h3:(l2[k]).e=(l[k]'HLT.out).e:=h2
      show _=_
      rw [h3]
      exact HLY.out HLT.out
     obtain ⟨A',c',ev,-,-,hrow⟩:=SOwn.row HO.out Sp.cs_len
     obtain ⟨nb,no,eA,hcell⟩:=hrow (by omega)
     have ec:A'=A:=by injection ev with e1 _ _; exact e1.symm
     subst ec
     subst eA
     have i9:nb < wB.heap.size:=World.block_lt_of_cell? wB ⟨nb,_,none⟩ (hcell k hlt2 0 _ rfl)
     obtain ⟨A8,c8,hl8⟩:=HS.out.look_all HKI.out
     obtain ⟨q,hq⟩:∃ q:Sp,q=⟨(z,y,(j:Int)),ndAt x z,A8,c8,wsAt x z⟩:=⟨_,rfl⟩
     have HQQ:=Hd hq
     have hqs:spcs z y (j:Int) (ndAt x z) A8 c8 (wsAt x z)=q.cs:=by rw [hq]; rfl
     have HQS:=Hd hqs
     have HLB:Hid (nb < wB.heap.size):=i9
     have HLV:=Hd hl8
     have HOB:Hid (∀ e,(Value.slice (some ⟨nb,no,none⟩) l2.length c2).ownBlock=some e→w.heap.size≤e):=fun e he=>(SOwn.block HO.out he).1
     clear ev hrow hcell i9 hl8 hq hqs hlt
     have HBW:Hid (∀ W,TurnP (Ow (.slice (some ⟨nb,no,none⟩) l2.length c2)) (Ow (.slice (some ⟨nb,no,none⟩) l2.length c2)) wB W→Below w.heap.size w W):=fun W ht=>HB.out.trans (ht.to_below HB.out.size HOB.out)
     have HBL:Hid (∀ W,TurnP (Ow (.slice (some ⟨nb,no,none⟩) l2.length c2)) (Ow (.slice (some ⟨nb,no,none⟩) l2.length c2)) wB W→(Instr.lookup tPlaces (.map (some m)) (.int .i64 z) false).run Tryz.prog W=.ok (.agg (plcs (ndAt x z) A8 c8 (wsAt x z)).toArray) W):=fun W ht=>(HLV.out W (HBW.out W ht)).1
     go_upto_region 8 with (fail)
     refine regv.wp_region_put (TurnP (Ow (.slice (some ⟨nb,no,none⟩) l2.length c2)) (Ow (.slice (some ⟨nb,no,none⟩) l2.length c2))) (fun L V wx=>SpJ w.heap.size (.slice (some ⟨nb,no,none⟩) l2.length c2) l2 q (L 0) (L 2) (L 6) (L 14) (L 15) (L 16) (L 17) (V 52) (V 53) (V 5) wB wx) [37,38,39,40,41,42,43,44,45,46,47,48,49,50,51,52,53,5] (by kernel_rfl) (by kernel_rfl) (fun _=>TurnP.refl _ _) (fun _ _ _ h k=>h.trans k) (fun i=>(match i with
      | 0=>regs.Say.val _ (.slice (some ⟨nb,no,none⟩) l2.length c2)
      | 1=>regs.Say.val _ (.int .i64 z)
      | 2=>regs.Say.val _ (.slice (some ⟨nb,no,none⟩) l2.length c2)
      | 3=>regs.Say.val _ (.int .i64 (k:Nat))
      | 4=>regs.Say.val _ (.pointer (some ⟨nb,(no + k * 29),none⟩))
      | 5=>regs.Say.val _ (.pointer (some ⟨nb,(no + k * 29),none⟩))
      | 6=>regs.Say.val _ (.int .i64 y)
      | 7=>regs.Say.val _ (.int .i64 (j:Nat))
      | 8=>regs.Say.val _ (.pointer (some ⟨g,0,none⟩))
      | 9=>regs.Say.val _ (.pointer (some ⟨g,0,none⟩))
      | 10=>regs.Say.val _ (.pointer (some ⟨g,5,none⟩))
      | 11=>regs.Say.val _ (.map (some m))
      | 12=>regs.Say.val _ (.int .i64 z)
      | 13=>regs.Say.val _ (.agg (plcs (ndAt x z) A8 c8 (wsAt x z)).toArray)
      | 14=>regs.Say.val _ (.agg (q.cs).toArray)
      | 15=>regs.Say.any _
      | 16=>regs.Say.any _
      | 17=>regs.Say.any _
      | _=>regs.Say.any _:regs.Say (TurnP (Ow (.slice (some ⟨nb,no,none⟩) l2.length c2)) (Ow (.slice (some ⟨nb,no,none⟩) l2.length c2)))).p) (fun _=>regs.Say.mono _) (by kernel_rfl) (TurnP.below (Below.refl _ _).drew) (⟨TurnP.below (Below.refl _ _).drew,HB.out.size,SOwn.below HO.out (Below.refl _ _).drew,(fun e=>nomatch e),(fun e=>nomatch e),(fun e=>nomatch e),(fun e=>nomatch e),fun _=>rfl,(fun e=>nomatch e),(fun e=>nomatch e),(fun e=>nomatch e)⟩) ⟨?_,?_,?_,?_,?_,?_,?_,?_,?_,?_,?_,?_,?_,?_,?_,?_,?_,?_,trivial⟩ ?_
     ·refine regv.StepOK.plain rfl fun L a w1 hh=>?_
      have h5:a.tmps[5]?.getD undef=.slice (some ⟨nb,no,none⟩) l2.length c2:=rq (hh.st.old (.inl hh.un))
      have hJ:=Hd hh.st; clear hh; go_simp; exact ⟨_,rfl,TurnP.refl _ _,rfl,SpJ.slots hJ.out.f0 (regv.sl_ne (by decide)) (regv.sl_ne (by decide)) (regv.sl_ne (by decide))⟩
     ·refine regv.StepOK.plain rfl fun L a w1 hh=>?_
      have h8:a.tmps[8]?.getD undef=.int .i64 z:=rq (hh.old 8 rfl)
      have hJ:=Hd hh.st; clear hh; go_simp; exact ⟨_,rfl,TurnP.refl _ _,rfl,SpJ.slots hJ.out (regv.sl_ne (by decide)) (regv.sl_ne (by decide)) (regv.sl_ne (by decide))⟩
     ·refine regv.StepOK.plain rfl fun L a w1 hh=>?_
      have h5:a.tmps[5]?.getD undef=.slice (some ⟨nb,no,none⟩) l2.length c2:=rq (hh.st.old (.inr hh.un))
      have hJ:=Hd hh.st; clear hh; go_simp; exact ⟨_,rfl,TurnP.refl _ _,rfl,SpJ.slots hJ.out.f2 (regv.sl_ne (by decide)) (regv.sl_ne (by decide)) (regv.sl_ne (by decide))⟩
     ·refine regv.StepOK.plain rfl fun L a w1 hh=>?_
      have h6:a.tmps[6]?.getD undef=.int .i64 (k:Nat):=rq (hh.old 6 rfl)
      have hJ:=Hd hh.st; clear hh; go_simp; exact ⟨_,rfl,TurnP.refl _ _,rfl,SpJ.slots hJ.out (regv.sl_ne (by decide)) (regv.sl_ne (by decide)) (regv.sl_ne (by decide))⟩
     ·refine regv.StepOK.plain rfl fun L a w1 hh=>?_
      have h39:=rq (hh.dep 2 39 (by kernel_rfl) (by kernel_rfl))
      have h40:=rq (hh.dep 3 40 (by kernel_rfl) (by kernel_rfl))
      have hlt:=HLN.out.2
      have hJ:=Hd hh.st; clear hh; go_simp; exact ⟨_,rfl,TurnP.refl _ _,rfl,SpJ.slots hJ.out (regv.sl_ne (by decide)) (regv.sl_ne (by decide)) (regv.sl_ne (by decide))⟩
     ·refine regv.StepOK.plain rfl fun L a w1 hh=>?_
      have h41:=rq (hh.dep 4 41 (by kernel_rfl) (by kernel_rfl))
      have i0:=Nat.lt_of_lt_of_le HLB.out (TurnP.size hh.rel)
      have hJ:=Hd hh.st; clear hh; go_simp; exact ⟨_,rfl,TurnP.refl _ _,rfl,SpJ.slots hJ.out (regv.sl_ne (by decide)) (regv.sl_ne (by decide)) (regv.sl_ne (by decide))⟩
     ·refine regv.StepOK.plain rfl fun L a w1 hh=>?_
      have h42:=rq (hh.dep 5 42 (by kernel_rfl) (by kernel_rfl))
      have hown:=hh.st.own
      rw [hh.st.no6 hh.un] at hown
      obtain ⟨A9,c9,e9,-,-,hrow⟩:=SOwn.row (show SpOwn w1 w.heap.size (.slice (some ⟨nb,no,none⟩) l2.length c2) l2 from hown) Sp.cs_len
      obtain ⟨n9,o9,e8,hcell⟩:=hrow (by have:=HLN.out; omega)
      have c0:=hcell k HLN.out.2 0 (.int .i64 (l2[k]'HLN.out.2).e.1) rfl
      rw [HLY2.out] at c0
      injection e9 with e9 e11 e12
      clear e11 e12
      rw [e8] at e9
      injection e9 with e9
      injection e9 with e9 e10 e11
      clear e11
      rw [← e9,← e10] at c0
      simp only [Nat.add_zero] at c0
      have i0:=World.block_lt_of_cell? w1 ⟨nb,_,none⟩ c0
      clear hown e8 e9 e10 hrow hcell
      have hJ:=Hd hh.st; clear hh; go_simp; exact ⟨_,rfl,TurnP.refl _ _,rfl,SpJ.slots hJ.out.f6 (regv.sl_ne (by decide)) (regv.sl_ne (by decide)) (regv.sl_ne (by decide))⟩
     ·refine regv.StepOK.plain rfl fun L a w1 hh=>?_
      have h7:a.tmps[7]?.getD undef=.int .i64 (j:Nat):=rq (hh.old 7 rfl)
      have hJ:=Hd hh.st; clear hh; go_simp; exact ⟨_,rfl,TurnP.refl _ _,rfl,SpJ.slots hJ.out (regv.sl_ne (by decide)) (regv.sl_ne (by decide)) (regv.sl_ne (by decide))⟩
     ·refine regv.StepOK.plain rfl fun L a w1 hh=>?_
      have h0:a.tmps[0]?.getD undef=.pointer (some ⟨g,0,none⟩):=rq (hh.old 0 rfl)
      have hJ:=Hd hh.st; clear hh; go_simp; exact ⟨_,rfl,TurnP.refl _ _,rfl,SpJ.slots hJ.out (regv.sl_ne (by decide)) (regv.sl_ne (by decide)) (regv.sl_ne (by decide))⟩
     ·refine regv.StepOK.plain rfl fun L a w1 hh=>?_
      have h45:=rq (hh.dep 8 45 (by kernel_rfl) (by kernel_rfl))
      have hJ:=Hd hh.st; clear hh; go_simp; exact ⟨_,rfl,TurnP.refl _ _,rfl,SpJ.slots hJ.out (regv.sl_ne (by decide)) (regv.sl_ne (by decide)) (regv.sl_ne (by decide))⟩
     ·refine regv.StepOK.plain rfl fun L a w1 hh=>?_
      have h46:=rq (hh.dep 9 46 (by kernel_rfl) (by kernel_rfl))
      have i0:=((FS.out _ (HBW.out _ hh.rel)).blk.blk).inside
      have hJ:=Hd hh.st; clear hh; go_simp; exact ⟨_,rfl,TurnP.refl _ _,rfl,SpJ.slots hJ.out (regv.sl_ne (by decide)) (regv.sl_ne (by decide)) (regv.sl_ne (by decide))⟩
     ·refine regv.StepOK.plain rfl fun L a w1 hh=>?_
      have h47:=rq (hh.dep 10 47 (by kernel_rfl) (by kernel_rfl))
      have hB:=Hd ((FS.out _ (HBW.out _ hh.rel)).blk.blk)
      have c0:w1.cell? ⟨g,5,none⟩=some (.map (some m)):=hB.out.cell 5
      have i0:=hB.out.inside
      have hJ:=Hd hh.st; clear hh; go_simp; exact ⟨_,rfl,TurnP.refl _ _,rfl,SpJ.slots hJ.out (regv.sl_ne (by decide)) (regv.sl_ne (by decide)) (regv.sl_ne (by decide))⟩
     ·refine regv.StepOK.plain rfl fun L a w1 hh=>?_
      have h8:a.tmps[8]?.getD undef=.int .i64 z:=rq (hh.old 8 rfl)
      have hJ:=Hd hh.st; clear hh; go_simp; exact ⟨_,rfl,TurnP.refl _ _,rfl,SpJ.slots hJ.out (regv.sl_ne (by decide)) (regv.sl_ne (by decide)) (regv.sl_ne (by decide))⟩
     ·refine regv.StepOK.plain rfl fun L a w1 hh=>?_
      have h48:=rq (hh.dep 11 48 (by kernel_rfl) (by kernel_rfl))
      have h49:=rq (hh.dep 12 49 (by kernel_rfl) (by kernel_rfl))
      have hlk:=HBL.out _ hh.rel
      have hJ:=Hd hh.st; clear hh; go_simp; exact ⟨_,rfl,TurnP.refl _ _,rfl,SpJ.slots hJ.out (regv.sl_ne (by decide)) (regv.sl_ne (by decide)) (regv.sl_ne (by decide))⟩
     ·refine regv.StepOK.plain rfl fun L a w1 hh=>?_
      have h38:=rq (hh.dep 1 38 (by kernel_rfl) (by kernel_rfl))
      have h43:=rq (hh.dep 6 43 (by kernel_rfl) (by kernel_rfl))
      have h44:=rq (hh.dep 7 44 (by kernel_rfl) (by kernel_rfl))
      have h50:=rq (hh.dep 13 50 (by kernel_rfl) (by kernel_rfl))
      have hJ:=Hd hh.st
      have h6:=hh.up 6 (by kernel_rfl)
      have hbd:=build_spot z y (j:Int) (ndAt x z) A8 c8 (wsAt x z) w1
      rw [HQS.out] at hbd
      exact wp_build _ _ rfl (by simp [go_sem,h38,h43,h44,h50]) hbd ⟨_,rfl,TurnP.refl _ _,rfl,SpJ.slots (hJ.out.f14 h6) (regv.sl_ne (by decide)) (regv.sl_ne (by decide)) (regv.sl_ne (by decide))⟩
     ·refine regv.StepOK.plain rfl fun L a w1 hh=>?_
      have h51:=rq (hh.dep 14 51 (by kernel_rfl) (by kernel_rfl))
      have hmk:=hh.st.make hh.un (hh.up 14 (by kernel_rfl))
      have hsz:=Hd hh.size
      exact wp_bs _ _ _ rfl (by simp [go_sem,h51]) (bs_spot q w1) ⟨_,rfl,hmk.2,trivial,SpJ.slots hmk.1 (regv.sl_same (by rw [hsz.out]; simp)) (regv.sl_ne (by decide)) (regv.sl_ne (by decide))⟩
     ·refine regv.StepOK.plain rfl fun L a w1 hh=>?_
      have h37:=rq (hh.dep 0 37 (by kernel_rfl) (by kernel_rfl))
      obtain ⟨v9,w9,hrun,hs9,ht9⟩:=hh.st.app (hh.up 15 (by kernel_rfl)) hh.un (by have:=HLN.out; have:=HN.out; omega)
      have hsz:=Hd hh.size
      exact wp_app _ _ _ _ _ rfl rfl (by simp [go_sem,h37]) rfl hrun ⟨_,rfl,ht9,trivial,SpJ.slots hs9 (regv.sl_ne (by decide)) (regv.sl_same (by rw [hsz.out]; simp)) (regv.sl_ne (by decide))⟩
     ·refine regv.StepOK.plain rfl fun L a w1 hh=>?_
      have h53:a.tmps[53]?.getD undef=regv.sl a 53:=by unfold regv.sl; rw [Array.getD_eq_getD_getElem?]
      have hu:=Hd (hh.st.put (hh.up 16 (by kernel_rfl)) (hh.up 0 (by kernel_rfl)) (hh.up 2 (by kernel_rfl)))
      have hsz:=Hd hh.size
      clear hh
      go_simp
      exact ⟨_,rfl,TurnP.refl _ _,trivial,SpJ.slots hu.out (regv.sl_ne (by decide)) (regv.sl_ne (by decide)) (regv.sl_same (by rw [hsz.out]; simp))⟩
     intro L w9 val hL hJ hR hv
     have HR9:=Hd hR
     have hw9:=hJ.ww (hL 17 (by decide))
     have hown:=hJ.own
     rw [hL 16 (by decide)] at hown
     have hown:SpOwn w9 w.heap.size (val 53) (l2++[q]):=hown
     obtain ⟨A6,c6,e53,-,-,-⟩:=SOwn.row hown Sp.cs_len
     have e5:=hw9.2
     rw [e53] at hown e5
     have HO9:=Hd hown
     clear hv hL hJ hR hown hw9
     simp only [regs.putAll,List.map_cons,List.map_nil]
     simp only [Act.put,List.setIfInBounds_toArray,List.set_cons_zero,List.set_cons_succ]
     generalize val 37=v37,val 38=v38,val 39=v39,val 40=v40,val 41=v41,val 42=v42,val 43=v43,val 44=v44,val 45=v45,val 46=v46,val 47=v47,val 48=v48,val 49=v49,val 50=v50,val 51=v51,val 52=v52 at *
     rw [e53]
     rw [e5]
     clear e5 e53
     have HB9:Hid (Below w.heap.size w w9):=HBW.out _ HR9.out
     have HQ9:Hid (∀ p∈l2++[q],SpOk Z.3 x (SFoot b m s x.t) w p):=fun p hp=>by
      rcases List.mem_append.1 hp with hp | hp
      ·exact HQ.out p hp
      ·rw [List.mem_singleton.1 hp,HQQ.out]
       exact ⟨rfl,rfl,(HLV.out w (Below.refl _ _)).2⟩
     have HE9:Hid ((l2++[q]).map (·.e)=l.map (·.e)++(grp x.t y).take (j + 1)):=by
      show _=_
      rw [List.map_append,HE.out,HTK.out,HQQ.out]
      simp
     have HK9:Hid (IOwn w9 wA.heap.size (.slice (some ⟨kb,ko,none⟩) (kids x.t y).length KC) (kids x.t y)):=SOwn.stays HKW.out fun e he=>by
      refine (HR9.out.far e (SOwn.block HKW.out he).2 fun h2=>?_).2
      obtain ⟨cu,fr,h3⟩:=SOwn.typed2 HKW.out he
      obtain ⟨cu',fr',h4⟩:=SOwn.typed2 HO.out h2
      rw [h3] at h4
      simp only [Option.some.injEq,Obj.cells.injEq] at h4
      exact absurd h4.2.1 (by decide)
     clear HO HQ HB HKW HBL HBW HLB HOB
     go_wp2_with (fail)
     go_roundw
     case rel=>exact ⟨j + 1,_,_,l2++[q],HKJ.out,by go_num,rfl,HO9,HE9,HQ9,HB9,HK9⟩
     case measure=>have:=HKJ.out; simp [intOf]; omega
    ·obtain rfl:j=(kids x.t y).length:=by omega
     have t2:decide ((kids x.t y).length < (kids x.t y).length)=false:=by simp
     have HE2:Hid (l2.map (·.e)=l.map (·.e)++grp x.t y):=by show _=_; rw [HL5.out]; exact HE.out
     have HK2:Hid (BI x.t f (k + 1) (l2.map (·.e))∧k + 1≤l2.length):=by
      refine ⟨by rw [HE2.out]; exact HBN.out,?_⟩
      have h1:=congrArg List.length HE2.out
      rw [List.length_map,List.length_append,List.length_map] at h1
      have:=HLT.out
      omega
     have HMS:Hid (k < x.t.length + 1):=by have:=HLT.out; have:=HLL.out; show _ < _; omega
     have hkb:(k:Int)≤100000:=by have:=HMS.out; have:=HN.out; omega
     clear HKW HE HK
     go_wp2_with (fail)
     go_roundw
     case rel=>exact ⟨k + 1,_,_,l2,by go_num,rfl,HO,HK2,HQ,HB⟩
     case measure=>have:=HMS.out; simp [intOf]; omega
  ·have t1:decide (k < l.length)=false:=by simpa using hlt
   have HKK:Hid (l.length≤k):=Nat.le_of_not_lt hlt
   clear hlt
   go_wp2_with (fail)
   go_ret
   refine ⟨_,l,rfl,HO.out,HB.out,⟨k,?_,HKK.out⟩,fun p hp=>(HQ.out p hp).turn (TurnP.below HB.out)⟩
   rw [HF.out]
   exact HK.out.1
end
end Go.Proofs.YthpifjcddgmjnaaGreat
