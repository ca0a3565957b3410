import Derived.Test.YthmegninhpihkaaGreatVDcd
set_option maxHeartbeats 16000000
set_option maxRecDepth 100000
open Go.Proofs.Tryz
namespace Go.Proofs.YthmegninhpihkaaGreat
section
open Go.RowKit fG gm aF Go.Maps
theorem VM.tK{w:World}{m g:Nat}{es:LV}{cs:List Value}(h:VM w m es)(hb:az w g cs):g≠m:=fun e=>by
 obtain⟨es',clock,h1,_⟩:=h.own;obtain⟨T,hT⟩:=hb;rw[e]at hT;have:=hT.symm.trans h1;cases this
theorem dN.tK{w:World}{m g:Nat}{H:Int->Bool}{nd:Int->Nd}{cs:List Value}(h:dN w m H nd)(hb:az w g cs):g≠m:=by
 obtain⟨es,h1,-⟩:=h.ex;exact h1.tK hb
theorem WE{w:World}{o:dH}{Ao An:Option Addr}{n:Nd}(h1:oU w Ao o.lk.l)(h2:oU w An n.lk.l):oU w (aW o Ao An) (bT n o).lk.l:=by
 by_cases h7:o.k=7
 ·have e:(bT n o).lk=o.lk:=by unfold bT;rw[if_neg (by omega),if_neg (by omega),if_neg (by omega),if_pos h7]
  rw[e,show aW o Ao An=Ao from if_pos h7];exact h1
 ·rw[LY h7,show aW o Ao An=An from if_neg h7];exact h2
def kE(cs:List Value):Prop:=∀c∈cs,∀z,c≠.int .u32 z
theorem wU.wrote{w w':World}{g:Nat}{cs:List Value}{v:Value}{n:Nd}(h:wU w v n)(hb:az w g cs)(hc:kE cs)(hW:Wrote g w w'):wU w' v n:=by
 obtain⟨A,c,e,hr⟩:=h;refine⟨A,c,e,hr.stays fun a ea hne=>hW.far fun e2=>?_⟩;obtain⟨b,off,e3,hcl⟩:=hr.row (List.length_pos_iff.2 hne);rw[ea]at e3;obtain rfl:=Option.some.inj e3;have h1:=hcl 0 (List.length_pos_iff.2 hne);obtain rfl:b=g:=e2;have h2:=hb.cell (off+0);rw[h1]at h2;exact hc _ (List.mem_of_getElem? h2.symm) _ rfl
theorem dN.wrote{w w':World}{m g:Nat}{H:Int->Bool}{nd:Int->Nd}{cs:List Value}(h:dN w m H nd)(hb:az w g cs)(hc:kE cs)(hW:Wrote g w w'):dN w' m H nd:=by
 have hne:=h.tK hb;obtain⟨es,h1,h2,h3⟩:=h.ex;refine⟨es,h1.stays (hW.far (Ne.symm hne)),h2,fun i hi=>?_⟩;obtain⟨v,e,hv⟩:=h3 i hi;exact⟨v,e,hv.wrote hb hc hW⟩
theorem aP.wrote{w w':World}{g:Nat}{v:Value}{t:T}{cs:List Value}{T:TypeId}(h:aP w v t)(hb:au w g cs T)(hT:T≠128)(hW:Wrote g w w'):aP w' v t:=
 h.stays fun _ _ _ _ hy ea=>hW.far (hy.dR ea hb hT)
theorem aP.grown{w w':World}{m:Nat}{v:Value}{t:T}{H:Int->Bool}{nd:Int->Nd}(h:aP w v t)(hm:dN w m H nd)(hg:w.grownBy w' (some m)):aP w' v t:=
 h.stays fun _ _ a _ hy ea=>hg.block _ (by obtain⟨cs,fz,h1⟩:=hy a ea;exact lt_of_block h1) fun e=>by
  obtain⟨cs,fz,h1⟩:=hy a ea;obtain⟨es,⟨_,⟨es',clock,h2,_⟩,_⟩,_⟩:=hm.ex;have e3:a.block=m:=by simpa using e
  rw[e3]at h1;have:=h1.symm.trans h2;cases this
theorem fC.wrote{w w':World}{v:Value}{wi aT M:Int}{x:aJ}{g:Nat}{cs:List Value}{T:TypeId}(h:fC w v wi aT M x)(hb:au w g cs T)(hT:T≠128)(hc:kE cs)(hW:Wrote g w w'):fC w' v wi aT M x:=by
 obtain⟨tv,m,e,h1,h2⟩:=h;exact⟨tv,m,e,h1.wrote hb hT hW,h2.wrote hb.blk hc hW⟩
theorem jJ(w:World)(g:Nat)(hg:g=w.heap.size)(cs:List Value)(T:TypeId):au (w.alloc (.cells cs.toArray T)) g cs T:=hg ▸ au.new w cs T
theorem aP.a1x{w:World}{A:Option Addr}{c:Nat}{t:T}(h:aP w (.slice A t.length c) t):l7 w A t:=by
 obtain⟨A',c',e,hr,_⟩:=h
 injection e with e _ _
 rw[e];exact hr
def DSh(v:Value):Prop:=∃cs:List Value,v=.agg cs.toArray∧cs.length=5∧kE cs∧cs.all (·.oneCell')=true
theorem QK(wi aT M:Int)(A:Option Addr)(n c:Nat)(m:Option Nat):DSh (.agg #[.int .i64 wi,.int .i64 aT,.int .i64 M,.slice A n c,.map m]):=⟨[.int .i64 wi,.int .i64 aT,.int .i64 M,.slice A n c,.map m],rfl,rfl,by unfold kE;simp,rfl⟩
structure MJ(B:Nat)(old:List (Nat×List Value))(m:Nat)(H:Int->Bool)(nd ET:Int->Nd)(tv:Value)(t:T)(gr:Nat)(d:Bool)(w:World):Prop where
 old:oW old w
 jr:B<=w.heap.size
 no:d=false->dN w m H nd
 yes:d=true->dN w m H ET
 tr:aP w tv t
 rt:au w gr Vf DK
theorem MJ.below{B:Nat}{old:List (Nat×List Value)}{m:Nat}{H:Int->Bool}{nd ET:Int->Nd}{tv:Value}{t:T}{gr:Nat}{d:Bool}{w w':World}(h:MJ B old m H nd ET tv t gr d w)(hb:bz w w'):MJ B old m H nd ET tv t gr d w':=
 ⟨h.old.below hb,Nat.le_trans h.jr hb.size,fun e=>(h.no e).below hb,fun e=>(h.yes e).below hb,h.tr.below hb,h.rt.stays (hb.block _ h.rt.inside)⟩
theorem oW.grown{w w':World}{m:Nat}{H:Int->Bool}{nd:Int->Nd}(hm:dN w m H nd)(hg:w.grownBy w' (some m)):∀{old:List (Nat×List Value)},oW old w->oW old w'
 |[],_=>trivial
 |_::_,h=>⟨h.1.stays (hg.block _ h.1.inside fun e=>hm.tK h.1 (Option.some.inj e)),oW.grown hm hg h.2⟩
theorem MJ.store{B:Nat}{old:List (Nat×List Value)}{m:Nat}{H:Int->Bool}{nd:Int->Nd}{tv:Value}{u t:T}{gr:Nat}{w:World}{i:Int}{n:Nd}{v:Value}(h:MJ B old m H nd (upd nd i n) tv u gr false w)(hH:∀i,H i=has t i)(hn:t.length<=100000)(hi:I64 i)(hh:H i=true)(hv:wU w v n)(hm:B<=m) :
  ∃w',(Instr.mapUpdate yO (.map (some m)) (.int .i64 i) v).run prog w=.ok () w'∧MJ B old m H nd (upd nd i n) tv u gr true w'∧Below B w w':=by
 have h0:=h.no rfl;obtain⟨w',hrun,hd,hg⟩:=h0.store hH hn hi hh hv;refine⟨w',hrun,⟨oW.grown h0 hg h.old,Nat.le_trans h.jr hg.size,nofun,fun _=>hd,h.tr.grown h0 hg,h.rt.stays (hg.block _ h.rt.inside fun e=>h0.tK h.rt.blk (Option.some.inj e))⟩,bR.grown hg h.jr fun j e=>by cases e;exact hm⟩
def Bd(wi aT M:Int)(r:aJ×Int)(w:World)(e:Ending)(w':World):Prop:=∃v',e=.returned (.tuple #[v',.int .i64 r.2])∧DSh v'∧(r.2=0->fC w' v' wi aT M r.1)∧bz w w'
theorem a2j(o:dH)(Ao:Option Addr)(co:Nat)(wi aT M:Int)(tv:Value)(x:aJ)(m:Nat)(ok:Ok x.t)(hn:x.t.length<=900)(hg:Good x)(hfx:∀i,Fit (x.nd i))(ho:kK o)(w:World)(hr:oU w Ao o.lk.l)(ht:aP w tv x.t)(hm:dN w m (has x.t) x.nd)(h1:o.k=1):Calls prog 55 #[.agg #[.int .i64 wi,.int .i64 aT,.int .i64 M,tv,.map (some m)],.agg (o.fF Ao co).toArray] w (Bd wi aT M (eU M x o) w):=by
 obtain⟨At,ct,rfl,hrt,hy⟩:=ht
 have HT:Hid (aP w (.slice At x.t.length ct) x.t):=⟨At,ct,rfl,hrt,hy⟩
 have QS:=Hd hm;have HR:=Hd hr;have dY:=Hd ok;have HN:=Hd hn;have HG:=Hd hg;have Ja:=Hd hfx;have HO:=Hd ho;unfold Bd
 obtain⟨R,hR⟩:=aC (eU M x o)
 have HE:=Hd hR;rw[hR];clear hR hm hr hrt hy ok hn hg hfx ho;have HB0:Hid (bz w (((w.alloc (.cells (Vb wi aT M At x.t.length ct m).toArray 30)).alloc (.cells (o.fF Ao co).toArray 154)).alloc (.cells Vf.toArray 30))):=((bR.alloc nR _).alloc (by simp) _).alloc (by simp;omega) _;have lY:Hid (au (((w.alloc (.cells (Vb wi aT M At x.t.length ct m).toArray 30)).alloc (.cells (o.fF Ao co).toArray 154)).alloc (.cells Vf.toArray 30)) w.heap.size (Vb wi aT M At x.t.length ct m) 30):=((au.new w (Vb wi aT M At x.t.length ct m) 30).al _).al _
 have jM:Hid (az (((w.alloc (.cells (Vb wi aT M At x.t.length ct m).toArray 30)).alloc (.cells (o.fF Ao co).toArray 154)).alloc (.cells Vf.toArray 30)) (w.heap.size+1) (o.fF Ao co)):=(aY (w.alloc _) _ (by simp) (o.fF Ao co) _).alloc _;have jd:Hid (au (((w.alloc (.cells (Vb wi aT M At x.t.length ct m).toArray 30)).alloc (.cells (o.fF Ao co).toArray 154)).alloc (.cells Vf.toArray 30)) (w.heap.size+2) Vf 30):=jJ ((w.alloc _).alloc _) _ (by simp) Vf 30;go_enter func55,ntmps55
 go_upto_region 1 with(fail)
 generalize (((w.alloc (.cells (Vb wi aT M At x.t.length ct m).toArray 30)).alloc (.cells (o.fF Ao co).toArray 154)).alloc (.cells Vf.toArray 30))=w0 at*;have c0:=jM.o.c 0 rfl;have c1:=jM.o.c 1 rfl;have c2:=jM.o.c 2 rfl;have c3:=jM.o.c 3 rfl;have ci:w.heap.size+1<w0.heap.size:=jM.o.inside;have s3:w0.cell? ⟨w.heap.size,3,none⟩=some (.slice At x.t.length ct):=lY.o.blk.cell 3;have si:w.heap.size<w0.heap.size:=lY.o.inside;have t1:(o.k==1)=true:=by simpa using h1
 have lZ:Hid (R=dV M x o.i o.p o.n):=by show _=_;rw[←HE.o];unfold eU;rw[if_pos h1]
 clear h1 HE;go_wp2_with (fail);refine(a3Z _ x.t o.i o.p o.n w0 (HT.o.below HB0.o) (by have:=HN.o;omega)).mono ?_;rintro e w1 ⟨v1,rfl,hd1,hb1⟩;have HB1:=Hd (HB0.o.trans (hb1.mono HB0.o.size));have fV:=Hd (au.stays lY.o ((hb1).block _ lY.o.inside));have jm:=Hd (au.stays jd.o ((hb1).block _ jd.o.inside));have wP:=Hd (jM.o.below' hb1);clear hb1 lY jM jd HB0 c0 c1 c2 c3 ci s3 si
 obtain⟨⟨t1',e1⟩,hq⟩:∃q,gJ x.t o.i o.p o.n=q:=⟨_,rfl⟩
 have HQ:=Hd hq;unfold dV at lZ;rw[hq]at lZ hd1 ⊢;simp only at lZ hd1 ⊢;clear hq;obtain⟨A1,n1,rfl,hr1,hy1⟩:=hd1
 have HD1:Hid (aP w1 (.slice A1 t1'.length n1) t1'):=⟨A1,n1,rfl,hr1,hy1⟩
 clear hr1 hy1;by_cases he:¬e1=0
 ·have q:(e1==0)=false:=by simpa using he
  have HE2:Hid (R=(x,e1)):=by show _=_;rw[lZ.o,if_pos he]
  have I8:=Hd he;clear lZ he;go_wp2_with (first|(with_reducible refine gL ?_;first|(refine wt 30 0 rfl rfl rfl fV.o.blk ((Vb wi aT M At x.t.length ct m)) rfl underlying30 rfl ?_))|(with_reducible refine gS ?_;first|(refine ay 30 _ _ rfl rfl rfl _ 0 rfl ((Vb wi aT M At x.t.length ct m)) rfl (Vf) jm.o.blk ((Vb wi aT M At x.t.length ct m)) rfl (nE rfl) ag rfl ?_;intro w2 HW2 dE)));rw[HE2.o]
  exact aS rfl rfl rfl dE.o underlying30 rfl ag ⟨_,rfl,QK _ _ _ _ _ _ _,fun e=>absurd e I8.o,HW2.o.below HB1.o (by omega)⟩
 ·obtain rfl:e1=0:=Decidable.not_not.1 he;clear he;have q:((0:Int)==0)=true:=by decide
  obtain⟨bk1,bk2,bk3,bk4,-,-⟩:=qN dY.o HQ.o;have AX:=Hd (Il dY.o HQ.o);have Yk:Hid (∀j,has t1' j=true↔j=o.i∨has x.t j=true):=bk4;have a0Q:=Hd bk1;have HTI:Hid (has t1' o.i=true):=ah.2 (.inr bk2);clear bk1 bk2 bk3 bk4;rw[if_neg (by decide)]at lZ;have hxn:(x.t.length:Int)<=900:=by have:=HN.o;omega
  have s2:w1.cell? ⟨w.heap.size,2,none⟩=some (.int .i64 M):=fV.o.blk.cell 2;have s3:w1.cell? ⟨w.heap.size,3,none⟩=some (.slice At x.t.length ct):=fV.o.blk.cell 3;have si:w.heap.size<w1.heap.size:=fV.o.inside;by_cases hM:M<((x.t.length+2:Nat):Int)
  ·have q2:decide (M<=(x.t.length:Int)+1)=true:=decide_eq_true (by omega);have HE2:Hid (R=(x,36)):=by show _=_;rw[lZ.o,if_pos hM]
   clear lZ hM;go_wp2_with (first|(with_reducible refine gL ?_;first|(refine wt 30 0 rfl rfl rfl fV.o.blk ((Vb wi aT M At x.t.length ct m)) rfl underlying30 rfl ?_))|(with_reducible refine gS ?_;first|(refine ay 30 _ _ rfl rfl rfl _ 0 rfl ((Vb wi aT M At x.t.length ct m)) rfl (Vf) jm.o.blk ((Vb wi aT M At x.t.length ct m)) rfl (nE rfl) ag rfl ?_;intro w2 HW2 dE)));rw[HE2.o]
   exact aS rfl rfl rfl dE.o underlying30 rfl ag ⟨_,rfl,QK _ _ _ _ _ _ _,fun e=>absurd (show(36:Int)=0 from e) (by decide),HW2.o.below HB1.o (by omega)⟩
  ·have q2:decide (M<=(x.t.length:Int)+1)=false:=decide_eq_false (by omega);have HE2:Hid (R=(⟨t1',upd x.nd o.i Nd.plain,upd x.ws o.i Mp.o⟩,0)):=by show _=_;rw[lZ.o,if_neg hM]
   clear lZ hM;have f3:w1.frozen? ⟨w.heap.size,3,none⟩=false:=fV.o.blk.free 3
   go_upto_region 8 with(fail)
   have HS:Hid (Wrote w.heap.size w1 (w1.setCell ⟨w.heap.size,3,none⟩ (.slice A1 t1'.length n1))):=⟨3,[.slice A1 t1'.length n1],rfl⟩
   have lW:Hid (au (w1.setCell ⟨w.heap.size,3,none⟩ (.slice A1 t1'.length n1)) w.heap.size (Vb wi aT M A1 t1'.length n1 m) 30):=fV.o.set 3 _;generalize hwq:(w1.setCell ⟨w.heap.size,3,none⟩ (.slice A1 t1'.length n1))=w2 at*;clear hwq;have HB2:Hid (bz w w2):=HS.o.below HB1.o nR;have kX:Hid (au w2 (w.heap.size+2) Vf 30):=jm.o.stays (HS.o.far (by omega));have kY:=Hd (HS.o.blk (show w.heap.size+1≠w.heap.size by omega) wP.o);have HD2:Hid (aP w2 (.slice A1 t1'.length n1) t1'):=HD1.o.wrote fV.o (by decide) HS.o
   go_wp2_with (first|(with_reducible refine gL ?_;first|(refine wt 30 0 rfl rfl rfl lW.o.blk ((Vb wi aT M A1 t1'.length n1 m)) rfl underlying30 rfl ?_)));refine(mM wi aT M _ t1' m (has x.t) x.nd a0Q.o (by have:=AX.o;have:=HN.o;omega) w2 HD2.o (QS.o.below HB2.o)).mono ?_;rintro e w3 ⟨m',rfl,hdm,hbq,xn⟩;have Yn:=Hd hdm;have a2N:Hid (w.heap.size<=m'):=Nat.le_trans HB2.o.size xn;have HD3:=Hd (HD2.o.below hbq);have HB3:=Hd (HB2.o.trans (hbq.mono HB2.o.size));have wM:=Hd (au.stays lW.o ((hbq).block _ lW.o.inside))
   have su:=Hd (au.stays kX.o ((hbq).block _ kX.o.inside));have IL:=Hd (kY.o.below' hbq);clear hdm hbq xn s2 s3 si f3 lW kX kY HD2 HB2 HS fV jm wP HD1 HB1;have HMM:Hid (w.heap.size+2≠m'):=Yn.o.tK su.o.blk
   go_upto_region 9 with(first|(with_reducible refine gS ?_;first|(refine ay 30 _ _ rfl rfl rfl _ 0 rfl ((Vb wi aT M A1 t1'.length n1 m')) rfl ((Vb wi aT M A1 t1'.length n1 m)) wM.o.blk ((Vb wi aT M A1 t1'.length n1 m')) rfl (nE rfl) ag rfl ?_;intro w4 xC nZ)))
   have HD4:Hid (aP w4 (.slice A1 t1'.length n1) t1'):=HD3.o.wrote wM.o (by decide) xC.o;have a4M:Hid (dN w4 m' (has t1') (Sm (has x.t) x.nd)):=Yn.o.wrote wM.o.blk (by unfold kE;simp) xC.o;have HB4:Hid (bz w w4):=xC.o.below HB3.o nR;have wO:Hid (au w4 (w.heap.size+2) Vf 30):=su.o.stays (xC.o.far (by omega));have Lp:=Hd (xC.o.blk (show w.heap.size+1≠w.heap.size by omega) IL.o)
   have AY:Hid (MJ w.heap.size [(w.heap.size,(Vb wi aT M A1 t1'.length n1 m')),(w.heap.size+1,o.fF Ao co),(w.heap.size+2,Vf)] m' (has t1') (Sm (has x.t) x.nd) (upd (Sm (has x.t) x.nd) o.i Nd.plain) (.slice A1 t1'.length n1) t1' (w.heap.size+2) false w4):=⟨⟨nZ.o,Lp.o,wO.o.blk,trivial⟩,HB4.o.size,fun _=>a4M.o,nofun,HD4.o,wO.o⟩
   have HMG:Hid (w.heap.size<=m'):=a2N.o;have HMI:Hid (t1'.length<=100000):=by have:=AX.o;have:=HN.o;show _<=_;omega
   refine wR (Below w.heap.size) (fun L wx=>MJ w.heap.size [(w.heap.size,(Vb wi aT M A1 t1'.length n1 m')),(w.heap.size+1,o.fF Ao co),(w.heap.size+2,Vf)] m' (has t1') (Sm (has x.t) x.nd) (upd (Sm (has x.t) x.nd) o.i Nd.plain) (.slice A1 t1'.length n1) t1' (w.heap.size+2) (L 5) wx) [46,47,48,49,50] (fun _=>bR) (fun _ _ _ h k=>h.trans k) (fun i=>match i with
    |0=>rp w.heap.size 4
    |1=>rV (.map (some m'))
    |2=>rp (w.heap.size+1) 1
    |3=>rV (.int .i64 o.i)
    |4=>rV (.agg (Nd.plain.cs none 0).toArray)
    |_=>ra) (bR.drew) (AY.o.below bR.drew) ⟨?_,?_,?_,?_,?_,?_,trivial⟩ ?_
   any_goals (first|refine zp fun L a w1 hh=>?_|fail)
   have h2:=hh.p 2 w.heap.size 0;have i0:=(hh.st.old.1).inside;rotate_left;have h46:=rq (hh.d 0 46);have ⟨c0,i0⟩:=(hh.st.old.1).ci 4 rfl;rotate_left;have h3:=hh.p 3 ((w.heap.size+1)) 0;have i0:=(hh.st.old.2.1).inside;rotate_left;have h48:=rq (hh.d 2 48);have ⟨c0,i0⟩:=(hh.st.old.2.1).ci 1 rfl;rotate_left
   ·have hC:=Hd (zW w1);have hJ:=hh.j;clear hh;go_simp;refine hC.o.mono ?_;rintro e w9 ⟨rfl,bD⟩;exact⟨_,rfl,bD.mono hJ.o.jr,rfl,hJ.o.below bD⟩
   ·have h47:=rq (hh.d 1 47);have h49:=rq (hh.d 3 49);have h50:=rq (hh.d 4 50);have hj:=hh.st;rw[hh.un]at hj;obtain⟨w9,hrun,YX,bD⟩:=hj.store (n:=Nd.plain) (fun _=>rfl) HMI.o HO.o.i HTI.o ⟨none,0,rfl,oU.none_ rfl⟩ HMG.o;unfold Nd.v at hrun;have hJ9:=Hd YX;have gK:=Hd bD;clear hh hj YX bD;go_simp;exact⟨gK.o,⟨undef,trivial⟩,hJ9.o⟩
   any_goals (have hJ:=hh.j;clear hh;go_simp;exact⟨_,rfl,bR,rfl,hJ.o⟩)
   intro L w5 val hL hJ hR hv;have kL:=Hd hR;have hj5:=hJ;rw[hL 5 (by decide)]at hj5;have HJ5:=Hd hj5;clear hv hL hJ hR hj5;simp only[regs.aG,List.map_cons,List.map_nil];simp only[Act.put,List.setIfInBounds_toArray,List.set_cons_zero,List.set_cons_succ]
   skip
   have U9:=Hd HJ5.o.old.1;have Qw:=Hd HJ5.o.old.2.2.1;have gI:Hid (bz w w5):=HB4.o.trans kL.o;have a4D:Hid (au w5 (w.heap.size+2) Vf 30):=HJ5.o.rt
   have HDC:Hid (fC w5 (.agg (Vb wi aT M A1 t1'.length n1 m').toArray) wi aT M ⟨t1',upd x.nd o.i Nd.plain,upd x.ws o.i Mp.o⟩):=⟨_,m',rfl,HJ5.o.tr,(HJ5.o.yes rfl).alike (fun _=>rfl) fun j hj=>by
    show upd x.nd o.i Nd.plain j=upd (Sm (has x.t) x.nd) o.i Nd.plain j;by_cases e:j=o.i
    ·rw[e,upd_same,upd_same]
    ·rw[upd_ne _ e,upd_ne _ e]
     exact(if_pos (((Yk.o j).1 hj).resolve_left e)).symm⟩
   go_wp2_with (first|(with_reducible refine gL ?_;first|(refine wt 30 0 rfl rfl rfl U9.o ((Vb wi aT M A1 t1'.length n1 m')) rfl underlying30 rfl ?_))|(with_reducible refine gS ?_;first|(refine ay 30 _ _ rfl rfl rfl _ 0 rfl ((Vb wi aT M A1 t1'.length n1 m')) rfl (Vf) Qw.o ((Vb wi aT M A1 t1'.length n1 m')) rfl (nE rfl) ag rfl ?_;intro w6 uG E8)));rw[HE2.o]
   exact aS rfl rfl rfl E8.o underlying30 rfl ag ⟨_,rfl,QK _ _ _ _ _ _ _,fun _=>HDC.o.wrote a4D.o (by decide) (by unfold kE;simp) uG.o,uG.o.below gI.o (by omega)⟩
theorem a2i(o:dH)(Ao:Option Addr)(co:Nat)(wi aT M:Int)(tv:Value)(x:aJ)(m:Nat)(ok:Ok x.t)(hn:x.t.length<=900)(hg:Good x)(hfx:∀i,Fit (x.nd i))(ho:kK o)(w:World)(hr:oU w Ao o.lk.l)(ht:aP w tv x.t)(hm:dN w m (has x.t) x.nd)(h2:o.k=2):Calls prog 55 #[.agg #[.int .i64 wi,.int .i64 aT,.int .i64 M,tv,.map (some m)],.agg (o.fF Ao co).toArray] w (Bd wi aT M (eU M x o) w):=by
 have h1:¬o.k=1:=by omega
 obtain⟨At,ct,rfl,hrt,hy⟩:=ht
 have HT:Hid (aP w (.slice At x.t.length ct) x.t):=⟨At,ct,rfl,hrt,hy⟩
 have QS:=Hd hm;have HR:=Hd hr;have dY:=Hd ok;have HN:=Hd hn;have HG:=Hd hg;have Ja:=Hd hfx;have HO:=Hd ho;unfold Bd
 obtain⟨R,hR⟩:=aC (eU M x o)
 have HE:=Hd hR;rw[hR];clear hR hm hr hrt hy ok hn hg hfx ho;have HB0:Hid (bz w (((w.alloc (.cells (Vb wi aT M At x.t.length ct m).toArray 30)).alloc (.cells (o.fF Ao co).toArray 154)).alloc (.cells Vf.toArray 30))):=((bR.alloc nR _).alloc (by simp) _).alloc (by simp;omega) _;have lY:Hid (au (((w.alloc (.cells (Vb wi aT M At x.t.length ct m).toArray 30)).alloc (.cells (o.fF Ao co).toArray 154)).alloc (.cells Vf.toArray 30)) w.heap.size (Vb wi aT M At x.t.length ct m) 30):=((au.new w (Vb wi aT M At x.t.length ct m) 30).al _).al _
 have jM:Hid (az (((w.alloc (.cells (Vb wi aT M At x.t.length ct m).toArray 30)).alloc (.cells (o.fF Ao co).toArray 154)).alloc (.cells Vf.toArray 30)) (w.heap.size+1) (o.fF Ao co)):=(aY (w.alloc _) _ (by simp) (o.fF Ao co) _).alloc _;have jd:Hid (au (((w.alloc (.cells (Vb wi aT M At x.t.length ct m).toArray 30)).alloc (.cells (o.fF Ao co).toArray 154)).alloc (.cells Vf.toArray 30)) (w.heap.size+2) Vf 30):=jJ ((w.alloc _).alloc _) _ (by simp) Vf 30;go_enter func55,ntmps55
 go_upto_region 1 with(fail)
 generalize (((w.alloc (.cells (Vb wi aT M At x.t.length ct m).toArray 30)).alloc (.cells (o.fF Ao co).toArray 154)).alloc (.cells Vf.toArray 30))=w0 at*;have c0:=jM.o.c 0 rfl;have c1:=jM.o.c 1 rfl;have ci:w.heap.size+1<w0.heap.size:=jM.o.inside;have s3:w0.cell? ⟨w.heap.size,3,none⟩=some (.slice At x.t.length ct):=lY.o.blk.cell 3;have si:w.heap.size<w0.heap.size:=lY.o.inside;have t1:(o.k==1)=false:=by simpa using h1
 have t2:(o.k==2)=true:=by simpa using h2
 have lZ:Hid (R=fJ x o.i):=by show _=_;rw[←HE.o];unfold eU;rw[if_neg h1,if_pos h2]
 clear h1 h2 HE;go_wp2_with (fail);refine(a3Y _ x.t o.i w0 dY.o (HT.o.below HB0.o) (by have:=HN.o;omega)).mono ?_;rintro e w1 ⟨v1,u1,rfl,hd1,-,hb1⟩;have HB1:=Hd (HB0.o.trans (hb1.mono HB0.o.size));have fV:=Hd (au.stays lY.o ((hb1).block _ lY.o.inside));have jm:=Hd (au.stays jd.o ((hb1).block _ jd.o.inside));have wP:=Hd (jM.o.below' hb1);clear hb1 lY jM jd HB0 c0 c1 ci s3 si;have Zk:=Hd (sW dY.o o.i)
 obtain⟨⟨t1',k1,e1⟩,hq⟩:∃q,jF x.t o.i=q:=⟨_,rfl⟩
 have HQ:=Hd hq;unfold fJ at lZ;rw[hq]at lZ Zk hd1 ⊢;simp only at lZ Zk hd1 ⊢;clear hq;obtain⟨A1,n1,rfl,hr1,hy1⟩:=hd1
 have HD1:Hid (aP w1 (.slice A1 t1'.length n1) t1'):=⟨A1,n1,rfl,hr1,hy1⟩
 clear hr1 hy1;by_cases he:¬e1=0
 ·have q:(e1==0)=false:=by simpa using he
  have HE2:Hid (R=(x,e1)):=by show _=_;rw[lZ.o,if_pos he]
  have I8:=Hd he;clear lZ he;go_wp2_with (first|(with_reducible refine gL ?_;first|(refine wt 30 0 rfl rfl rfl fV.o.blk ((Vb wi aT M At x.t.length ct m)) rfl underlying30 rfl ?_))|(with_reducible refine gS ?_;first|(refine ay 30 _ _ rfl rfl rfl _ 0 rfl ((Vb wi aT M At x.t.length ct m)) rfl (Vf) jm.o.blk ((Vb wi aT M At x.t.length ct m)) rfl (nE rfl) ag rfl ?_;intro w2 HW2 dE)));rw[HE2.o]
  exact aS rfl rfl rfl dE.o underlying30 rfl ag ⟨_,rfl,QK _ _ _ _ _ _ _,fun e=>absurd e I8.o,HW2.o.below HB1.o (by omega)⟩
 ·obtain rfl:e1=0:=Decidable.not_not.1 he;clear he;have q:((0:Int)==0)=true:=by decide
  have HE2:Hid (R=(⟨t1',x.nd,x.ws⟩,0)):=by show _=_;rw[lZ.o,if_neg (by decide)]
  have a0Q:Hid (Ok t1'):=Zk.o.1;have AX:Hid (t1'.length<=x.t.length):=Zk.o.2
  have Yk:Hid (∀j,has t1' j=true->has x.t j=true):=fun j hj=>by
   obtain⟨y1,y2⟩:=yS (t:=x.t) (i:=o.i) (by rw[HQ.o]);rw[HQ.o]at y2
   injection y2 with y2 _
   rw[y2]at hj;exact((zH dY.o y1).1 hj).2
  clear lZ Zk;have s3:w1.cell? ⟨w.heap.size,3,none⟩=some (.slice At x.t.length ct):=fV.o.blk.cell 3;have si:w.heap.size<w1.heap.size:=fV.o.inside;have f3:w1.frozen? ⟨w.heap.size,3,none⟩=false:=fV.o.blk.free 3
  go_upto_region 16 with(fail)
  have HS:Hid (Wrote w.heap.size w1 (w1.setCell ⟨w.heap.size,3,none⟩ (.slice A1 t1'.length n1))):=⟨3,[.slice A1 t1'.length n1],rfl⟩
  have lW:Hid (au (w1.setCell ⟨w.heap.size,3,none⟩ (.slice A1 t1'.length n1)) w.heap.size (Vb wi aT M A1 t1'.length n1 m) 30):=fV.o.set 3 _;generalize hwq:(w1.setCell ⟨w.heap.size,3,none⟩ (.slice A1 t1'.length n1))=w2 at*;clear hwq;have HB2:Hid (bz w w2):=HS.o.below HB1.o nR;have kX:Hid (au w2 (w.heap.size+2) Vf 30):=jm.o.stays (HS.o.far (by omega));have kY:=Hd (HS.o.blk (show w.heap.size+1≠w.heap.size by omega) wP.o);have HD2:Hid (aP w2 (.slice A1 t1'.length n1) t1'):=HD1.o.wrote fV.o (by decide) HS.o
  go_wp2_with (first|(with_reducible refine gL ?_;first|(refine wt 30 0 rfl rfl rfl lW.o.blk ((Vb wi aT M A1 t1'.length n1 m)) rfl underlying30 rfl ?_)));refine(mM wi aT M _ t1' m (has x.t) x.nd a0Q.o (by have:=AX.o;have:=HN.o;omega) w2 HD2.o (QS.o.below HB2.o)).mono ?_;rintro e w3 ⟨m',rfl,hdm,hbq,xn⟩;have Yn:=Hd hdm;have a2N:Hid (w.heap.size<=m'):=Nat.le_trans HB2.o.size xn;have HD3:=Hd (HD2.o.below hbq);have HB3:=Hd (HB2.o.trans (hbq.mono HB2.o.size));have wM:=Hd (au.stays lW.o ((hbq).block _ lW.o.inside))
  have su:=Hd (au.stays kX.o ((hbq).block _ kX.o.inside));have IL:=Hd (kY.o.below' hbq);clear hdm hbq s3 si f3 xn lW kX kY HD2 HB2 HS fV jm wP HD1 HB1;go_wp2_with (first|(with_reducible refine gS ?_;first|(refine ay 30 _ _ rfl rfl rfl _ 0 rfl ((Vb wi aT M A1 t1'.length n1 m')) rfl (Vf) su.o.blk ((Vb wi aT M A1 t1'.length n1 m')) rfl (nE rfl) ag rfl ?_;intro w4 xC nZ)));rw[HE2.o]
  exact aS rfl rfl rfl nZ.o underlying30 rfl ag ⟨_,rfl,QK _ _ _ _ _ _ _,fun _=>⟨_,m',rfl,HD3.o.wrote su.o (by decide) xC.o,(Yn.o.wrote su.o.blk (by unfold kE;simp) xC.o).alike (fun _=>rfl) fun j hj=>(if_pos (Yk.o j hj)).symm⟩,xC.o.below HB3.o (by omega)⟩
theorem a2h(o:dH)(Ao:Option Addr)(co:Nat)(wi aT M:Int)(tv:Value)(x:aJ)(m:Nat)(ok:Ok x.t)(hn:x.t.length<=900)(hg:Good x)(hfx:∀i,Fit (x.nd i))(ho:kK o)(w:World)(hr:oU w Ao o.lk.l)(ht:aP w tv x.t)(hm:dN w m (has x.t) x.nd)(h3:o.k=3):Calls prog 55 #[.agg #[.int .i64 wi,.int .i64 aT,.int .i64 M,tv,.map (some m)],.agg (o.fF Ao co).toArray] w (Bd wi aT M (eU M x o) w):=by
 have h1:¬o.k=1:=by omega
 have h2:¬o.k=2:=by omega
 obtain⟨At,ct,rfl,hrt,hy⟩:=ht
 have HT:Hid (aP w (.slice At x.t.length ct) x.t):=⟨At,ct,rfl,hrt,hy⟩
 have QS:=Hd hm;have HR:=Hd hr;have dY:=Hd ok;have HN:=Hd hn;have HG:=Hd hg;have Ja:=Hd hfx;have HO:=Hd ho;unfold Bd
 obtain⟨R,hR⟩:=aC (eU M x o)
 have HE:=Hd hR;rw[hR];clear hR hm hr hrt hy ok hn hg hfx ho;have HB0:Hid (bz w (((w.alloc (.cells (Vb wi aT M At x.t.length ct m).toArray 30)).alloc (.cells (o.fF Ao co).toArray 154)).alloc (.cells Vf.toArray 30))):=((bR.alloc nR _).alloc (by simp) _).alloc (by simp;omega) _;have lY:Hid (au (((w.alloc (.cells (Vb wi aT M At x.t.length ct m).toArray 30)).alloc (.cells (o.fF Ao co).toArray 154)).alloc (.cells Vf.toArray 30)) w.heap.size (Vb wi aT M At x.t.length ct m) 30):=((au.new w (Vb wi aT M At x.t.length ct m) 30).al _).al _
 have jM:Hid (az (((w.alloc (.cells (Vb wi aT M At x.t.length ct m).toArray 30)).alloc (.cells (o.fF Ao co).toArray 154)).alloc (.cells Vf.toArray 30)) (w.heap.size+1) (o.fF Ao co)):=(aY (w.alloc _) _ (by simp) (o.fF Ao co) _).alloc _;have jd:Hid (au (((w.alloc (.cells (Vb wi aT M At x.t.length ct m).toArray 30)).alloc (.cells (o.fF Ao co).toArray 154)).alloc (.cells Vf.toArray 30)) (w.heap.size+2) Vf 30):=jJ ((w.alloc _).alloc _) _ (by simp) Vf 30;go_enter func55,ntmps55
 go_upto_region 1 with(fail)
 generalize (((w.alloc (.cells (Vb wi aT M At x.t.length ct m).toArray 30)).alloc (.cells (o.fF Ao co).toArray 154)).alloc (.cells Vf.toArray 30))=w0 at*;have c0:=jM.o.c 0 rfl;have c1:=jM.o.c 1 rfl;have c2:=jM.o.c 2 rfl;have c3:=jM.o.c 3 rfl;have ci:w.heap.size+1<w0.heap.size:=jM.o.inside;have s3:w0.cell? ⟨w.heap.size,3,none⟩=some (.slice At x.t.length ct):=lY.o.blk.cell 3;have si:w.heap.size<w0.heap.size:=lY.o.inside;have t1:(o.k==1)=false:=by simpa using h1
 have t2:(o.k==2)=false:=by simpa using h2
 have t3:(o.k==3)=true:=by simpa using h3
 have lZ:Hid (R=lK x o.i o.p o.n):=by show _=_;rw[←HE.o];unfold eU;rw[if_neg h1,if_neg h2,if_pos h3]
 clear h1 h2 h3 HE;go_wp2_with (fail);refine(a2e _ x.t o.i o.p o.n w0 dY.o (HT.o.below HB0.o) (by have:=HN.o;omega)).mono ?_;rintro e w1 ⟨v1,rfl,hd1,hb1⟩;have HB1:=Hd (HB0.o.trans (hb1.mono HB0.o.size));have fV:=Hd (au.stays lY.o ((hb1).block _ lY.o.inside));have jm:=Hd (au.stays jd.o ((hb1).block _ jd.o.inside));have wP:=Hd (jM.o.below' hb1);clear hb1 lY jM jd HB0 c0 c1 c2 c3 ci s3 si
 obtain⟨⟨t1',e1⟩,hq⟩:∃q,jT x.t o.i o.p o.n=q:=⟨_,rfl⟩
 have HQ:=Hd hq;unfold lK at lZ;rw[hq]at lZ hd1 ⊢;simp only at lZ hd1 ⊢;clear hq;obtain⟨A1,n1,rfl,hr1,hy1⟩:=hd1
 have HD1:Hid (aP w1 (.slice A1 t1'.length n1) t1'):=⟨A1,n1,rfl,hr1,hy1⟩
 clear hr1 hy1
 have HR2:Hid (R.2=e1∧(e1=0->R.1=⟨t1',x.nd,x.ws⟩)):=by
  by_cases he:e1=0
  ·subst he;rw[show R=_ from lZ.o,if_neg (by decide)];exact⟨rfl,fun _=>rfl⟩
  ·rw[show R=_ from lZ.o,if_pos he];exact⟨rfl,fun e=>absurd e he⟩
 have Yk:Hid (e1=0->∀j,has t1' j=has x.t j):=fun he j=>by
  subst he;obtain⟨y1,y2,-⟩:=zk (t:=x.t) (i:=o.i) (p:=o.p) (n:=o.n) (by rw[HQ.o]);rw[HQ.o]at y1;simp only at y1;rw[Bool.eq_iff_iff,ah,ah,y1,iJ y2]
 clear lZ;have s3:w1.cell? ⟨w.heap.size,3,none⟩=some (.slice At x.t.length ct):=fV.o.blk.cell 3;have si:w.heap.size<w1.heap.size:=fV.o.inside;have f3:w1.frozen? ⟨w.heap.size,3,none⟩=false:=fV.o.blk.free 3
 go_upto_region 20 with(fail)
 have HS:Hid (Wrote w.heap.size w1 (w1.setCell ⟨w.heap.size,3,none⟩ (.slice A1 t1'.length n1))):=⟨3,[.slice A1 t1'.length n1],rfl⟩
 have lW:Hid (au (w1.setCell ⟨w.heap.size,3,none⟩ (.slice A1 t1'.length n1)) w.heap.size (Vb wi aT M A1 t1'.length n1 m) 30):=fV.o.set 3 _;generalize hwq:(w1.setCell ⟨w.heap.size,3,none⟩ (.slice A1 t1'.length n1))=w2 at*;clear hwq;have HB2:Hid (bz w w2):=HS.o.below HB1.o nR;have kX:Hid (au w2 (w.heap.size+2) Vf 30):=jm.o.stays (HS.o.far (by omega));have kY:=Hd (HS.o.blk (show w.heap.size+1≠w.heap.size by omega) wP.o);have HD2:Hid (aP w2 (.slice A1 t1'.length n1) t1'):=HD1.o.wrote fV.o (by decide) HS.o;clear s3 si f3
 go_wp2_with (first|(with_reducible refine gL ?_;first|(refine wt 30 0 rfl rfl rfl lW.o.blk ((Vb wi aT M A1 t1'.length n1 m)) rfl underlying30 rfl ?_))|(with_reducible refine gS ?_;first|(refine ay 30 _ _ rfl rfl rfl _ 0 rfl ((Vb wi aT M A1 t1'.length n1 m)) rfl (Vf) kX.o.blk ((Vb wi aT M A1 t1'.length n1 m)) rfl (nE rfl) ag rfl ?_;intro w4 xC nZ)));rw[HR2.o.1];refine aS rfl rfl rfl nZ.o underlying30 rfl ag ⟨_,rfl,QK _ _ _ _ _ _ _,fun e=>?_,xC.o.below HB2.o (by omega)⟩;rw[HR2.o.2 e]
 exact⟨_,m,rfl,HD2.o.wrote kX.o (by decide) xC.o,(QS.o.below (xC.o.below HB2.o (by omega))).alike (Yk.o e) fun _ _=>rfl⟩
theorem a2g(o:dH)(Ao:Option Addr)(co:Nat)(wi aT M:Int)(tv:Value)(x:aJ)(m:Nat)(ok:Ok x.t)(hn:x.t.length<=900)(hg:Good x)(hfx:∀i,Fit (x.nd i))(ho:kK o)(w:World)(hr:oU w Ao o.lk.l)(ht:aP w tv x.t)(hm:dN w m (has x.t) x.nd)(h9:¬(1<=o.k∧o.k<=8)):Calls prog 55 #[.agg #[.int .i64 wi,.int .i64 aT,.int .i64 M,tv,.map (some m)],.agg (o.fF Ao co).toArray] w (Bd wi aT M (eU M x o) w):=by
 have h1:¬o.k=1:=by omega
 have h2:¬o.k=2:=by omega
 have h3:¬o.k=3:=by omega
 obtain⟨At,ct,rfl,hrt,hy⟩:=ht
 have HT:Hid (aP w (.slice At x.t.length ct) x.t):=⟨At,ct,rfl,hrt,hy⟩
 have QS:=Hd hm;have HR:=Hd hr;have dY:=Hd ok;have HN:=Hd hn;have HG:=Hd hg;have Ja:=Hd hfx;have HO:=Hd ho;unfold Bd
 obtain⟨R,hR⟩:=aC (eU M x o)
 have HE:=Hd hR;rw[hR];clear hR hm hr hrt hy ok hn hg hfx ho;have HB0:Hid (bz w (((w.alloc (.cells (Vb wi aT M At x.t.length ct m).toArray 30)).alloc (.cells (o.fF Ao co).toArray 154)).alloc (.cells Vf.toArray 30))):=((bR.alloc nR _).alloc (by simp) _).alloc (by simp;omega) _;have lY:Hid (au (((w.alloc (.cells (Vb wi aT M At x.t.length ct m).toArray 30)).alloc (.cells (o.fF Ao co).toArray 154)).alloc (.cells Vf.toArray 30)) w.heap.size (Vb wi aT M At x.t.length ct m) 30):=((au.new w (Vb wi aT M At x.t.length ct m) 30).al _).al _
 have jM:Hid (az (((w.alloc (.cells (Vb wi aT M At x.t.length ct m).toArray 30)).alloc (.cells (o.fF Ao co).toArray 154)).alloc (.cells Vf.toArray 30)) (w.heap.size+1) (o.fF Ao co)):=(aY (w.alloc _) _ (by simp) (o.fF Ao co) _).alloc _;have jd:Hid (au (((w.alloc (.cells (Vb wi aT M At x.t.length ct m).toArray 30)).alloc (.cells (o.fF Ao co).toArray 154)).alloc (.cells Vf.toArray 30)) (w.heap.size+2) Vf 30):=jJ ((w.alloc _).alloc _) _ (by simp) Vf 30;go_enter func55,ntmps55
 go_upto_region 1 with(fail)
 generalize (((w.alloc (.cells (Vb wi aT M At x.t.length ct m).toArray 30)).alloc (.cells (o.fF Ao co).toArray 154)).alloc (.cells Vf.toArray 30))=w0 at*;have c0:=jM.o.c 0 rfl;have ci:w.heap.size+1<w0.heap.size:=jM.o.inside;have t1:(o.k==1)=false:=by simpa using h1
 have t2:(o.k==2)=false:=by simpa using h2
 have t3:(o.k==3)=false:=by simpa using h3
 have HE2:Hid (R=(x,38)):=by show _=_;rw[←HE.o];unfold eU;rw[if_neg h1,if_neg h2,if_neg h3,if_neg (by omega)]
 clear h1 h2 h3 HE;by_cases hl:o.k<1
 ·have q1:decide (o.k<1)=true:=decide_eq_true hl;clear hl h9;go_wp2_with (first|(with_reducible refine gL ?_;first|(refine wt 30 0 rfl rfl rfl lY.o.blk ((Vb wi aT M At x.t.length ct m)) rfl underlying30 rfl ?_))|(with_reducible refine gS ?_;first|(refine ay 30 _ _ rfl rfl rfl _ 0 rfl ((Vb wi aT M At x.t.length ct m)) rfl (Vf) jd.o.blk ((Vb wi aT M At x.t.length ct m)) rfl (nE rfl) ag rfl ?_;intro w2 HW2 dE)));rw[HE2.o]
  exact aS rfl rfl rfl dE.o underlying30 rfl ag ⟨_,rfl,QK _ _ _ _ _ _ _,fun e=>absurd (show(38:Int)=0 from e) (by decide),HW2.o.below HB0.o (by omega)⟩
 ·have q1:decide (o.k<1)=false:=decide_eq_false hl;have q2:decide ((8:Int)<o.k)=true:=decide_eq_true (by omega);clear hl h9;go_wp2_with (first|(with_reducible refine gL ?_;first|(refine wt 30 0 rfl rfl rfl lY.o.blk ((Vb wi aT M At x.t.length ct m)) rfl underlying30 rfl ?_))|(with_reducible refine gS ?_;first|(refine ay 30 _ _ rfl rfl rfl _ 0 rfl ((Vb wi aT M At x.t.length ct m)) rfl (Vf) jd.o.blk ((Vb wi aT M At x.t.length ct m)) rfl (nE rfl) ag rfl ?_;intro w2 HW2 dE)));rw[HE2.o]
  exact aS rfl rfl rfl dE.o underlying30 rfl ag ⟨_,rfl,QK _ _ _ _ _ _ _,fun e=>absurd (show(38:Int)=0 from e) (by decide),HW2.o.below HB0.o (by omega)⟩
theorem a2f(o:dH)(Ao:Option Addr)(co:Nat)(wi aT M:Int)(tv:Value)(x:aJ)(m:Nat)(ok:Ok x.t)(hn:x.t.length<=900)(hg:Good x)(hfx:∀i,Fit (x.nd i))(ho:kK o)(w:World)(hr:oU w Ao o.lk.l)(ht:aP w tv x.t)(hm:dN w m (has x.t) x.nd)(h4:4<=o.k∧o.k<=8):Calls prog 55 #[.agg #[.int .i64 wi,.int .i64 aT,.int .i64 M,tv,.map (some m)],.agg (o.fF Ao co).toArray] w (Bd wi aT M (eU M x o) w):=by
 have h1:¬o.k=1:=by omega
 have h2:¬o.k=2:=by omega
 have h3:¬o.k=3:=by omega
 obtain⟨At,ct,rfl,hrt,hy⟩:=ht
 have HT:Hid (aP w (.slice At x.t.length ct) x.t):=⟨At,ct,rfl,hrt,hy⟩
 have QS:=Hd hm;have HR:=Hd hr;have dY:=Hd ok;have HN:=Hd hn;have HG:=Hd hg;have Ja:=Hd hfx;have HO:=Hd ho;unfold Bd
 obtain⟨R,hR⟩:=aC (eU M x o)
 have HE:=Hd hR;rw[hR];clear hR hm hr hrt hy ok hn hg hfx ho;have HB0:Hid (bz w (((w.alloc (.cells (Vb wi aT M At x.t.length ct m).toArray 30)).alloc (.cells (o.fF Ao co).toArray 154)).alloc (.cells Vf.toArray 30))):=((bR.alloc nR _).alloc (by simp) _).alloc (by simp;omega) _;have lY:Hid (au (((w.alloc (.cells (Vb wi aT M At x.t.length ct m).toArray 30)).alloc (.cells (o.fF Ao co).toArray 154)).alloc (.cells Vf.toArray 30)) w.heap.size (Vb wi aT M At x.t.length ct m) 30):=((au.new w (Vb wi aT M At x.t.length ct m) 30).al _).al _
 have jM:Hid (az (((w.alloc (.cells (Vb wi aT M At x.t.length ct m).toArray 30)).alloc (.cells (o.fF Ao co).toArray 154)).alloc (.cells Vf.toArray 30)) (w.heap.size+1) (o.fF Ao co)):=(aY (w.alloc _) _ (by simp) (o.fF Ao co) _).alloc _;have jd:Hid (au (((w.alloc (.cells (Vb wi aT M At x.t.length ct m).toArray 30)).alloc (.cells (o.fF Ao co).toArray 154)).alloc (.cells Vf.toArray 30)) (w.heap.size+2) Vf 30):=jJ ((w.alloc _).alloc _) _ (by simp) Vf 30;go_enter func55,ntmps55
 go_upto_region 1 with(fail)
 generalize (((w.alloc (.cells (Vb wi aT M At x.t.length ct m).toArray 30)).alloc (.cells (o.fF Ao co).toArray 154)).alloc (.cells Vf.toArray 30))=w0 at*;have c0:=jM.o.c 0 rfl;have c1:=jM.o.c 1 rfl;have ci:w.heap.size+1<w0.heap.size:=jM.o.inside;have s3:w0.cell? ⟨w.heap.size,3,none⟩=some (.slice At x.t.length ct):=lY.o.blk.cell 3;have s4:w0.cell? ⟨w.heap.size,4,none⟩=some (.map (some m)):=lY.o.blk.cell 4;have si:w.heap.size<w0.heap.size:=lY.o.inside;have t1:(o.k==1)=false:=by simpa using h1
 have t2:(o.k==2)=false:=by simpa using h2
 have t3:(o.k==3)=false:=by simpa using h3
 have lZ:Hid (R=kQ x o):=by show _=_;rw[←HE.o];unfold eU;rw[if_neg h1,if_neg h2,if_neg h3,if_pos h4]
 have q1:decide (o.k<1)=false:=decide_eq_false (by omega);have q2:decide ((8:Int)<o.k)=false:=decide_eq_false (by omega);clear h1 h2 h3 h4 HE;go_wp2_with (fail);refine(TV At x.t ct o.i w0 (aP.a1x (HT.o.below HB0.o)) (by have:=HN.o;omega)).mono ?_;rintro e w1 ⟨rfl,hb1⟩;have HB1:=Hd (HB0.o.trans (hb1.mono HB0.o.size));have fV:=Hd (au.stays lY.o ((hb1).block _ lY.o.inside));have jm:=Hd (au.stays jd.o ((hb1).block _ jd.o.inside));have wP:=Hd (jM.o.below' hb1);clear hb1 lY jM jd HB0 c0 c1 ci s3 s4 si q1 q2;unfold kQ at lZ
 cases hh:has x.t o.i with
 |false=>
  have HE2:Hid (R=(x,30)):=by show _=_;rw[lZ.o,if_pos hh]
  clear lZ;go_wp2_with (first|(with_reducible refine gL ?_;first|(refine wt 30 0 rfl rfl rfl fV.o.blk ((Vb wi aT M At x.t.length ct m)) rfl underlying30 rfl ?_))|(with_reducible refine gS ?_;first|(refine ay 30 _ _ rfl rfl rfl _ 0 rfl ((Vb wi aT M At x.t.length ct m)) rfl (Vf) jm.o.blk ((Vb wi aT M At x.t.length ct m)) rfl (nE rfl) ag rfl ?_;intro w2 HW2 dE)));rw[HE2.o]
  exact aS rfl rfl rfl dE.o underlying30 rfl ag ⟨_,rfl,QK _ _ _ _ _ _ _,fun e=>absurd (show(30:Int)=0 from e) (by decide),HW2.o.below HB1.o (by omega)⟩
 |true=>
  have Zt:Hid (has x.t o.i=true):=hh;rw[if_neg (by rw[hh];decide)]at lZ;clear hh;obtain⟨An,cn,hrn,hlk⟩:=QS.o.look HO.o.i Zt.o;have HLK:=Hd hlk;have XV:=Hd hrn;have a3S:=hlk w1 HB1.o;clear hlk hrn;have c1:=wP.o.c 1 rfl;have ci:w.heap.size+1<w1.heap.size:=wP.o.inside;have s4:w1.cell? ⟨w.heap.size,4,none⟩=some (.map (some m)):=fV.o.blk.cell 4;have si:w.heap.size<w1.heap.size:=fV.o.inside;go_wp2_with (first|(with_reducible refine gL ?_;first|(refine wt 154 0 rfl rfl rfl wP.o (o.fF Ao co) rfl underlying154 rfl ?_)))
  refine(TQ o Ao co (x.nd o.i) An cn w1).mono ?_;rintro e w2 ⟨rfl,hb2⟩;have HB2:=Hd (HB1.o.trans (hb2.mono HB1.o.size));have lW:=Hd (au.stays fV.o ((hb2).block _ fV.o.inside));have kX:=Hd (au.stays jm.o ((hb2).block _ jm.o.inside));have kY:=Hd (wP.o.below' hb2);clear hb2 a3S fV wP jm c1 ci s4 si;have Qo:Hid ((bT (x.nd o.i) o).chk=(bT Nd.plain o).chk):=Ns (HG.o o.i) o;have Wi:Hid (Fit (bT (x.nd o.i) o)):=tC ⟨HO.o.fit.p,HO.o.fit.l,HO.o.fit.len⟩ (Ja.o o.i)
  have Ld:Hid (∀W,bz w W->oU W (aW o Ao An) (bT (x.nd o.i) o).lk.l):=fun W hb=>WE (HR.o.below hb) (XV.o.below hb)
  obtain⟨A7,hA7⟩:∃q,aW o Ao An=q:=⟨_,rfl⟩
  obtain⟨c7,hc7⟩:∃q,aW o co cn=q:=⟨_,rfl⟩
  rw[hA7]at Ld;rw[hA7,hc7];clear hA7 hc7
  obtain⟨N1,hN1⟩:=aC (bT (x.nd o.i) o)
  rw[hN1]at Qo Wi Ld lZ ⊢;clear hN1;rw[←Qo.o]at lZ;have HZ:Hid (az (w2.alloc (.cells Va.toArray 46)) w2.heap.size Va):=aA w2 Va _;have iD:Hid (Below w2.heap.size w2 (w2.alloc (.cells Va.toArray 46))):=bR.alloc nR _
  go_upto_region 26 with(first|(with_reducible refine gS ?_;first|(refine ay 46 _ _ rfl rfl rfl _ 0 rfl (N1.cs A7 c7) rfl (Va) HZ.o (N1.cs A7 c7) rfl (nE rfl) ag (Nd.one _ _ _) ?_;intro w3 HW3 dM)))
  obtain⟨z,hz⟩:=aC w2.heap.size
  have iL:Hid (w.heap.size+2<z):=by rw[←hz];exact kX.o.inside
  rw[hz]at HW3 dM HZ iD ⊢;have HB3:Hid (bz w w3):=HW3.o.below (HB2.o.trans (iD.o.mono (by have:=iL.o;omega))) (by have:=iL.o;omega);have wM:Hid (au w3 w.heap.size (Vb wi aT M At x.t.length ct m) 30):=(lW.o.stays (iD.o.block _ (by have:=iL.o;omega))).stays (HW3.o.far (by have:=iL.o;omega));have su:Hid (au w3 (w.heap.size+2) Vf 30):=(kX.o.stays (iD.o.block _ (by have:=iL.o;omega))).stays (HW3.o.far (by have:=iL.o;omega))
  have IL:Hid (az w3 (w.heap.size+1) (o.fF Ao co)):=HW3.o.blk (show w.heap.size+1≠z by have:=iL.o;omega) (kY.o.below (iD.o) (by have:=iL.o;omega));clear lW kX kY HB2 HZ iD HW3 hz;go_wp2_with (first|(with_reducible refine gL ?_;first|(refine wt 46 0 rfl rfl rfl dM.o (N1.cs A7 c7) rfl underlying46 rfl ?_)));refine(PM N1.m N1.op N1.hi N1.cl N1.r N1.lk.k N1.lk.W N1.lk.H N1.lk.p N1.lk.iw N1.lk.ih A7 N1.lk.l c7 Wi.o.p Wi.o.l (by have:=Wi.o.len;unfold maxLen;omega) w3 (Ld.o w3 HB3.o).row).mono ?_;rintro e w4 ⟨rfl,hb4⟩
  rw[show Jw N1.m N1.op N1.cl N1.r (Bz N1.lk.k N1.lk.W N1.lk.H N1.lk.p N1.lk.iw N1.lk.ih N1.lk.l)=N1.chk from rfl];have HB4:=Hd (HB3.o.trans (hb4.mono HB3.o.size));have Vw:=Hd (au.stays wM.o ((hb4).block _ wM.o.inside));have wO:=Hd (au.stays su.o ((hb4).block _ su.o.inside));have Lp:=Hd (IL.o.below' hb4);have nZ:=Hd (dM.o.below' hb4);clear hb4 wM su IL dM HB3
  obtain⟨e1,he1⟩:=aC N1.chk
  rw[he1]at lZ ⊢;clear he1;by_cases he:¬e1=0
  ·have q:(e1==0)=false:=by simpa using he
   have HE2:Hid (R=(x,e1)):=by show _=_;rw[lZ.o,if_pos he]
   have I8:=Hd he;clear lZ he;go_wp2_with (first|(with_reducible refine gL ?_;first|(refine wt 30 0 rfl rfl rfl Vw.o.blk ((Vb wi aT M At x.t.length ct m)) rfl underlying30 rfl ?_))|(with_reducible refine gS ?_;first|(refine ay 30 _ _ rfl rfl rfl _ 0 rfl ((Vb wi aT M At x.t.length ct m)) rfl (Vf) wO.o.blk ((Vb wi aT M At x.t.length ct m)) rfl (nE rfl) ag rfl ?_;intro w5 yA uS)));rw[HE2.o]
   exact aS rfl rfl rfl uS.o underlying30 rfl ag ⟨_,rfl,QK _ _ _ _ _ _ _,fun e=>absurd e I8.o,yA.o.below HB4.o (by omega)⟩
  ·obtain rfl:e1=0:=Decidable.not_not.1 he;clear he;have q:((0:Int)==0)=true:=by decide
   have HE2:Hid (R=(⟨x.t,upd x.nd o.i N1,x.ws⟩,0)):=by show _=_;rw[lZ.o,if_neg (by decide)]
   clear lZ;go_wp2_with (first|(with_reducible refine gL ?_;first|(refine wt 30 0 rfl rfl rfl Vw.o.blk ((Vb wi aT M At x.t.length ct m)) rfl underlying30 rfl ?_)));refine(mM wi aT M _ x.t m (has x.t) x.nd dY.o (by have:=HN.o;omega) w4 (HT.o.below HB4.o) (QS.o.below HB4.o)).mono ?_;rintro e w5 ⟨m',rfl,hdm,hb5,xn⟩;have a4L:=Hd hdm;have HMG:Hid (w.heap.size<=m'):=Nat.le_trans HB4.o.size xn;have gI:=Hd (HB4.o.trans (hb5.mono HB4.o.size));have U9:=Hd (au.stays Vw.o ((hb5).block _ Vw.o.inside))
   have Qw:=Hd (au.stays wO.o ((hb5).block _ wO.o.inside));have a2T:=Hd (Lp.o.below' hb5);have uS:=Hd (nZ.o.below' hb5);have Qu:Hid (z≠w.heap.size):=by have:=iL.o;show _≠_;omega
   clear hdm hb5 xn Vw wO Lp nZ HB4
   go_upto_region 30 with(first|(with_reducible refine gS ?_;first|(refine ay 30 _ _ rfl rfl rfl _ 0 rfl ((Vb wi aT M At x.t.length ct m')) rfl ((Vb wi aT M At x.t.length ct m)) U9.o.blk ((Vb wi aT M At x.t.length ct m')) rfl (nE rfl) ag rfl ?_;intro w6 uG E8)))
   have sD:Hid (bz w w6):=uG.o.below gI.o nR;have HD6:Hid (aP w6 (.slice At x.t.length ct) x.t):=HT.o.below sD.o;have Ym:Hid (dN w6 m' (has x.t) (Sm (has x.t) x.nd)):=a4L.o.wrote U9.o.blk (by unfold kE;simp) uG.o;have Vy:Hid (au w6 (w.heap.size+2) Vf 30):=Qw.o.stays (uG.o.far (by omega));have Qx:=Hd (uG.o.blk (show w.heap.size+1≠w.heap.size by omega) a2T.o);have a4A:=Hd (uG.o.blk Qu.o uS.o);have U8:=E8
   obtain⟨w7,hrun,a15,YY⟩:=Ym.o.store (t:=x.t) (fun _=>rfl) (by have:=HN.o;omega) HO.o.i Zt.o (v:=.agg (N1.cs A7 c7).toArray) (n:=N1) ⟨A7,c7,rfl,Ld.o w6 sD.o⟩;have a4K:=Hd a15;have a4B:Hid (az w7 w.heap.size (Vb wi aT M At x.t.length ct m')):=U8.o.stays (YY.block _ U8.o.inside fun e=>Ym.o.tK U8.o (Option.some.inj e));have a0W:Hid (au w7 (w.heap.size+2) Vf 30):=Vy.o.stays (YY.block _ Vy.o.inside fun e=>Ym.o.tK Vy.o.blk (Option.some.inj e));have HD7:Hid (aP w7 (.slice At x.t.length ct) x.t):=HD6.o.grown Ym.o YY
   have sN:Hid (bz w w7):=sD.o.grown YY sD.o.size fun j e=>by cases e;exact HMG.o
   clear a15 YY U9 Qw a2T uS gI uG;have c1:=Qx.o.c 1 rfl;have ci:w.heap.size+1<w6.heap.size:=Qx.o.inside;have s4:w6.cell? ⟨w.heap.size,4,none⟩=some (.map (some m')):=U8.o.cell 4;have si:w.heap.size<w6.heap.size:=U8.o.inside
   go_upto_region 31 with(first|(with_reducible refine gL ?_;first|(refine wt 46 0 rfl rfl rfl a4A.o (N1.cs A7 c7) rfl underlying46 rfl ?_)))
   clear hrun c1 ci s4 si;go_wp2_with (first|(with_reducible refine gL ?_;first|(refine wt 30 0 rfl rfl rfl a4B.o ((Vb wi aT M At x.t.length ct m')) rfl underlying30 rfl ?_))|(with_reducible refine gS ?_;first|(refine ay 30 _ _ rfl rfl rfl _ 0 rfl ((Vb wi aT M At x.t.length ct m')) rfl (Vf) a0W.o.blk ((Vb wi aT M At x.t.length ct m')) rfl (nE rfl) ag rfl ?_;intro w8 HW8 VB)));rw[HE2.o]
   exact aS rfl rfl rfl VB.o underlying30 rfl ag ⟨_,rfl,QK _ _ _ _ _ _ _,fun _=>⟨_,m',rfl,HD7.o.wrote a0W.o (by decide) HW8.o,(a4K.o.wrote a0W.o.blk (by unfold kE;simp) HW8.o).alike (fun _=>rfl) fun j hj=>by
    show upd x.nd o.i N1 j=upd (Sm (has x.t) x.nd) o.i N1 j;by_cases e:j=o.i
    ·rw[e,upd_same,upd_same]
    ·rw[upd_ne _ e,upd_ne _ e]
     exact(if_pos hj).symm⟩,HW8.o.below sN.o (by omega)⟩
theorem Xy(o:dH)(Ao:Option Addr)(co:Nat)(wi aT M:Int)(tv:Value)(x:aJ)(m:Nat)(ok:Ok x.t)(hn:x.t.length<=900)(hg:Good x)(hfx:∀i,Fit (x.nd i))(ho:kK o)(w:World)(hr:oU w Ao o.lk.l)(ht:aP w tv x.t)(hm:dN w m (has x.t) x.nd):Calls prog 55 #[.agg #[.int .i64 wi,.int .i64 aT,.int .i64 M,tv,.map (some m)],.agg (o.fF Ao co).toArray] w (Bd wi aT M (eU M x o) w):=by
 by_cases h1:o.k=1
 ·exact a2j o Ao co wi aT M tv x m ok hn hg hfx ho w hr ht hm h1
 by_cases h2:o.k=2
 ·exact a2i o Ao co wi aT M tv x m ok hn hg hfx ho w hr ht hm h2
 by_cases h3:o.k=3
 ·exact a2h o Ao co wi aT M tv x m ok hn hg hfx ho w hr ht hm h3
 by_cases h4:4<=o.k∧o.k<=8
 ·exact a2f o Ao co wi aT M tv x m ok hn hg hfx ho w hr ht hm h4
 exact a2g o Ao co wi aT M tv x m ok hn hg hfx ho w hr ht hm (by omega)
end
section
open Go.RowKit fG gm aF Go.Maps
def a1N(o:Obj):Prop:=∃cs fz,o=.cells cs DK fz∧kE cs.toList
structure DR(B:Nat)(w w':World):Prop where
 bel:Below B w w'
 same:∀(k:Nat) (o:Obj),w.heap[k]?=some o->¬a1N o->w'.heap[k]?=some o
theorem DR.refl(B:Nat)(w:World):DR B w w:=⟨bR,fun _ _ h _=>h⟩
theorem DR.trans{B:Nat}{w w1 w2:World}(h:DR B w w1)(k:DR B w1 w2):DR B w w2:=⟨h.bel.trans k.bel,fun j o h1 h2=>k.same j o (h.same j o h1 h2) h2⟩
theorem DR.below{B:Nat}{w w':World}(hb:bz w w')(hB:B<=w.heap.size):DR B w w':=⟨hb.mono hB,fun k _ h _=>(hb.block k (Array.getElem?_eq_some_iff.1 h).1).trans h⟩
theorem DR.wrote{B g:Nat}{w w':World}{cs:List Value}(hb:au w g cs DK)(hc:kE cs)(hW:Wrote g w w')(hB:B<=g):DR B w w':=⟨hW.below bR hB,fun k o h hn=>by
 by_cases e:k=g
 ·refine absurd ⟨cs.toArray,(0,0),?_,by simpa using hc⟩ hn;rw[e]at h;exact Option.some.inj (h.symm.trans hb)
 ·exact(hW.far e).trans h⟩
theorem AA.dr{B:Nat}{w w':World}{A:Option Addr}(h:AA w A)(hr:DR B w w'){a:Addr}(e:A=some a):w'.heap[a.block]?=w.heap[a.block]?:=by
 obtain⟨cs,fz,h1⟩:=h a e;rw[h1];refine hr.same _ _ h1 ?_;rintro⟨cs',fz',e2,_⟩
 injection e2 with _ e3 _
 exact absurd e3 (by decide)
theorem aP.dr{B:Nat}{w w':World}{v:Value}{t:T}(h:aP w v t)(hr:DR B w w'):aP w' v t:=h.stays fun _ _ _ _ hy ea=>hy.dr hr ea
theorem oU.dr{B:Nat}{w w':World}{A:Option Addr}{l:List Nat}(h:oU w A l)(hr:DR B w w'):oU w' A l:=h.stays fun a ea hne=>by
 obtain⟨cs,fz,h1⟩:=h.typ a ea hne;rw[h1];refine hr.same _ _ h1 ?_;rintro⟨cs',fz',e2,_⟩
 injection e2 with _ e3 _
 exact absurd e3 (by decide)
theorem wU.dr{B:Nat}{w w':World}{v:Value}{n:Nd}(h:wU w v n)(hr:DR B w w'):wU w' v n:=by
 obtain⟨A,c,e,h1⟩:=h;exact⟨A,c,e,h1.dr hr⟩
theorem dN.dr{B:Nat}{w w':World}{m:Nat}{H:Int->Bool}{nd:Int->Nd}(h:dN w m H nd)(hr:DR B w w'):dN w' m H nd:=by
 obtain⟨es,h1,h2,h3⟩:=h.ex;refine⟨es,h1.stays ?_,h2,fun i hi=>?_⟩
 ·obtain⟨es',clock,h4,_⟩:=h1.own;rw[h4];refine hr.same _ _ h4 ?_;rintro⟨_,_,e,_⟩;cases e
 ·obtain⟨v,e,hv⟩:=h3 i hi;exact⟨v,e,hv.dr hr⟩
theorem fC.dr{B:Nat}{w w':World}{v:Value}{a b M:Int}{x:aJ}(h:fC w v a b M x)(hr:DR B w w'):fC w' v a b M x:=by
 obtain⟨tv,m,e,h1,h2⟩:=h;exact⟨tv,m,e,h1.dr hr,h2.dr hr⟩
def DP(a b M:Int)(y:aJ)(e:Int)(v:Value)(w:World):Prop:=DSh v∧(e=0->fC w v a b M y)
theorem DP.dr{B:Nat}{a b M:Int}{y:aJ}{e:Int}{v:Value}{w w':World}(h:DP a b M y e v w)(hr:DR B w w'):DP a b M y e v w':=⟨h.1,fun k=>(h.2 k).dr hr⟩
theorem au.wrote{w w':World}{g:Nat}{cs cs':List Value}{T:TypeId}(h:au w g cs T)(hW:Wrote g w w')(hB:az w' g cs'):au w' g cs' T:=by
 obtain⟨o,l,rfl⟩:=hW
 have:∀(l:List Value) (o:Nat) {w:World} {cs:List Value},au w g cs T->∃c2,au (dX g w o l) g c2 T:=by
  intro l
  induction l with
  |nil=>exact fun _ _ cs h=>⟨cs,h⟩
  |cons v l ih=>exact fun o _ _ h=>ih (o+1) (h.set o v)
 obtain⟨c2,h2⟩:=this l o h;obtain⟨T',h3⟩:=hB;have e:=h2.symm.trans h3;simp only[Option.some.injEq,Obj.cells.injEq]at e;have e1:c2=cs':=by have:=congrArg Array.toList e.1;simpa using this
 rw[←e1];exact h2
structure VJ(B:Nat)(iA iS:Bool)(vA vC:Value)(w:World):Prop where
 jr:B<=w.heap.size
 ex:iA=true->∃g cs,vA=.pointer (some ⟨g,0,none⟩)∧B<=g∧au w g cs DK∧kE cs∧cs.length=5∧(iS=true->vC=.agg cs.toArray)
section
variable {B:Nat}{iA iS:Bool}{vA vC:Value}{w w':World}
theorem VJ.start(h:B<=w.heap.size):VJ B false iS vA vC w:=⟨h,fun e=>nomatch e⟩
theorem VJ.slots{uA uC:Value}(h:VJ B iA iS vA vC w)(e1:uA=vA)(e2:uC=vC):VJ B iA iS uA uC w:=by rw[e1,e2];exact h
theorem VJ.below(h:VJ B iA iS vA vC w)(hb:bz w w'):VJ B iA iS vA vC w':=⟨Nat.le_trans h.jr hb.size,fun e=>by
 obtain⟨g,cs,h1,h2,h3,h4⟩:=h.ex e
 exact⟨g,cs,h1,h2,h3.stays (hb.block _ h3.inside),h4⟩⟩
theorem VJ.told{u uA:Value}(h:VJ B iA iS vA vC w)(eS:iS=false)(e1:uA=vA):VJ B iA iS uA u w:=⟨h.jr,fun e=>by
 obtain⟨g,cs,h1,h2,h3,h4,h5,_⟩:=h.ex e
 exact⟨g,cs,e1.trans h1,h2,h3,h4,h5,fun e=>by rw[eS]at e;cases e⟩⟩
theorem VJ.made{uA uC:Value}(h:VJ B iA iS vA vC w)(eS:iS=false)(e1:uA=.pointer (some ⟨w.heap.size,0,none⟩)):VJ B true iS uA uC (w.alloc (.cells Vf.toArray DK)):=
 ⟨Nat.le_trans h.jr (by simp),fun _=>⟨w.heap.size,_,e1,h.jr,au.new w Vf DK,by unfold kE;simp,rfl,fun e=>by rw[eS]at e;cases e⟩⟩
theorem VJ.put{cs':List Value}{g:Nat}{cs:List Value}(h:VJ B iA iS vA vC w)(e1:vA=.pointer (some ⟨g,0,none⟩))(hg:B<=g)(hb:au w g cs DK)(hc:kE cs)(hW:Wrote g w w')(hB:az w' g cs')(h2:kE cs')(hl:cs'.length=5)(ev:vC=.agg cs'.toArray):VJ B iA true vA vC w'∧DR B w w':=
 ⟨⟨by rw[hW.size];exact h.jr,fun _=>⟨g,cs',e1,hg,hb.wrote hW hB,h2,hl,fun _=>ev⟩⟩,DR.wrote hb hc hW hg⟩
end
def EP(w:World)(g:Nat)(a b M:Int)(x:aJ):Prop:=∃A c m,au w g (Vb a b M A x.t.length c m) DK∧aP w (.slice A x.t.length c) x.t∧dN w m (has x.t) x.nd
theorem EP.below{w w':World}{g:Nat}{a b M:Int}{x:aJ}(h:EP w g a b M x)(hb:bz w w'):EP w' g a b M x:=by
 obtain⟨A,c,m,h1,h2,h3⟩:=h;exact⟨A,c,m,h1.stays (hb.block _ h1.inside),h2.below hb,h3.below hb⟩
theorem fC.ex{w:World}{v:Value}{a b M:Int}{x:aJ}(h:fC w v a b M x):∃A c m,v=.agg (Vb a b M A x.t.length c m).toArray∧aP w (.slice A x.t.length c) x.t∧dN w m (has x.t) x.nd:=by
 obtain⟨tv,m,rfl,⟨A,c,rfl,h1⟩,h2⟩:=h;exact⟨A,c,m,rfl,⟨A,c,rfl,h1⟩,h2⟩
theorem EP.doc{w:World}{a b M:Int}{x:aJ}{A:Option Addr}{c m:Nat}(h1:aP w (.slice A x.t.length c) x.t)(h2:dN w m (has x.t) x.nd):fC w (.agg (Vb a b M A x.t.length c m).toArray) a b M x:=⟨_,m,rfl,h1,h2⟩
theorem a0u(a b M:Int)(A:Option Addr)(n c:Nat)(m:Option Nat):kE [.int .i64 a,.int .i64 b,.int .i64 M,.slice A n c,.map m]:=by unfold kE;simp
theorem fC.a1K{w:World}{v:Value}{a b M:Int}{x y:aJ}(h:fC w v a b M x)(h1:MP y x):fC w v a b M y:=h.like h1.1 h1.2
def iK.fF(q:iK):List Value:=q.o.fF q.A q.c
theorem iK.Ep(q:iK):q.fF.length=24:=rfl
structure xK(w:World)(A:Option Addr)(l:List iK):Prop where
 row:aV 24 iK.fF w A l
 px:∀q∈l,oU w q.A q.o.lk.l
theorem xK.below{w w':World}{A:Option Addr}{l:List iK}(h:xK w A l)(hb:bz w w'):xK w' A l:=⟨aV.below h.row hb,fun q hq=>(h.px q hq).below hb⟩
theorem xK.dr{B:Nat}{w w':World}{A:Option Addr}{l:List iK}(h:xK w A l)(hr:DR B w w'):xK w' A l:=by
 refine⟨fun hn=>?_,fun q hq=>(h.px q hq).dr hr⟩;obtain⟨b,off,e,hc⟩:=h.row hn;refine⟨b,off,e,fun j hj i v hv=>?_⟩;have h0:=hc 0 hn 20 (.int .u32 ((l[0]).o.lk.p:Nat)) rfl;have hlt:=World.block_lt_of_cell? w ⟨b,_,none⟩ h0;simp only at hlt;have h2:w.heap[b]?=some w.heap[b]:=Array.getElem?_eq_getElem hlt
 have h4:=hr.same _ _ h2 (by
  rintro⟨cs,fz,e2,hp⟩;unfold World.cell? at h0;rw[h2,e2]at h0;simp only at h0;have h3:cs[off+0*24+20]?=some (.int .u32 ((l[0]).o.lk.p:Nat)):=by simpa using h0
  exact hp _ (List.mem_of_getElem? (by rw[Array.getElem?_toList];exact h3)) _ rfl)
 exact(World.cell?_of_block (a:=⟨b,_,none⟩) (h4.trans h2.symm)).trans (hc j hj i v hv)
end
end Go.Proofs.YthmegninhpihkaaGreat
