import Derived.Test.YthmegninhpihkaaGreatYDcd
set_option maxHeartbeats 16000000
set_option maxRecDepth 100000
open Go.Proofs.Tryz
namespace Go.Proofs.YthmegninhpihkaaGreat
section
open Go.RowKit fD fO aF Go.Maps
theorem VM.tY{w:World}{m g:Nat}{es:LV}{cs:List Value}(h:VM w m es)(hb:az w g cs):g≠m:=fun e=>by
 obtain⟨es',clock,h1,_⟩:=h.own;obtain⟨T,hT⟩:=hb;rw[e]at hT;have:=hT.symm.trans h1;cases this
theorem dO.tY{w:World}{m g:Nat}{H:Int->Bool}{nd:Int->Nd}{cs:List Value}(h:dO w m H nd)(hb:az w g cs):g≠m:=by
 obtain⟨es,h1,-⟩:=h.ex;exact h1.tY hb
theorem WY{w:World}{o:dM}{Ao An:Option Addr}{n:Nd}(h1:ny w Ao o.lk.l)(h2:ny w An n.lk.l):ny w (aX o Ao An) (bU n o).lk.l:=by
 by_cases h7:o.k=7
 ·have e:(bU n o).lk=o.lk:=by unfold bU;rw[if_neg (by omega),if_neg (by omega),if_neg (by omega),if_pos h7]
  rw[e,show aX o Ao An=Ao from if_pos h7];exact h1
 ·rw[MK h7,show aX o Ao An=An from if_neg h7];exact h2
def kE(cs:List Value):Prop:=∀c∈cs,∀z,c≠.int .u32 z
theorem wW.wrote{w w':World}{g:Nat}{cs:List Value}{v:Value}{n:Nd}(h:wW w v n)(hb:az w g cs)(hc:kE cs)(hW:Wrote g w w'):wW w' v n:=by
 obtain⟨A,c,e,hr⟩:=h;refine⟨A,c,e,hr.stays fun a ea hne=>hW.far fun e2=>?_⟩;obtain⟨b,off,e3,hcl⟩:=hr.row (List.length_pos_iff.2 hne);rw[ea]at e3;obtain rfl:=Option.some.inj e3;have h1:=hcl 0 (List.length_pos_iff.2 hne);obtain rfl:b=g:=e2;have h2:=hb.cell (off+0);rw[h1]at h2;exact hc _ (List.mem_of_getElem? h2.symm) _ rfl
theorem dO.wrote{w w':World}{m g:Nat}{H:Int->Bool}{nd:Int->Nd}{cs:List Value}(h:dO w m H nd)(hb:az w g cs)(hc:kE cs)(hW:Wrote g w w'):dO w' m H nd:=by
 have hne:=h.tY hb;obtain⟨es,h1,h2,h3⟩:=h.ex;refine⟨es,h1.stays (hW.far (Ne.symm hne)),h2,fun i hi=>?_⟩;obtain⟨v,e,hv⟩:=h3 i hi;exact⟨v,e,hv.wrote hb hc hW⟩
theorem aQ.wrote{w w':World}{g:Nat}{v:Value}{t:T}{cs:List Value}{T:TypeId}(h:aQ w v t)(hb:ak w g cs T)(hT:T≠128)(hW:Wrote g w w'):aQ w' v t:=
 h.stays fun _ _ _ _ hy ea=>hW.far (hy.dQ ea hb hT)
theorem aQ.grown{w w':World}{m:Nat}{v:Value}{t:T}{H:Int->Bool}{nd:Int->Nd}(h:aQ w v t)(hm:dO w m H nd)(hg:w.grownBy w' (some m)):aQ w' v t:=
 h.stays fun _ _ a _ hy ea=>hg.block _ (by obtain⟨cs,fz,h1⟩:=hy a ea;exact lt_of_block h1) fun e=>by
  obtain⟨cs,fz,h1⟩:=hy a ea;obtain⟨es,⟨_,⟨es',clock,h2,_⟩,_⟩,_⟩:=hm.ex;have e3:a.block=m:=by simpa using e
  rw[e3]at h1;have:=h1.symm.trans h2;cases this
theorem fE.wrote{w w':World}{v:Value}{wi aT M:Int}{x:aK}{g:Nat}{cs:List Value}{T:TypeId}(h:fE w v wi aT M x)(hb:ak w g cs T)(hT:T≠128)(hc:kE cs)(hW:Wrote g w w'):fE w' v wi aT M x:=by
 obtain⟨tv,m,e,h1,h2⟩:=h;exact⟨tv,m,e,h1.wrote hb hT hW,h2.wrote hb.blk hc hW⟩
theorem jK(w:World)(g:Nat)(hg:g=w.heap.size)(cs:List Value)(T:TypeId):ak (w.alloc (.cells cs.toArray T)) g cs T:=hg ▸ ak.new w cs T
theorem aQ.a1I{w:World}{A:Option Addr}{c:Nat}{t:T}(h:aQ w (.slice A t.length c) t):mg w A t:=by
 obtain⟨A',c',e,hr,_⟩:=h
 injection e with e _ _
 rw[e];exact hr
def DSh(v:Value):Prop:=∃cs:List Value,v=.agg cs.toArray∧cs.length=5∧kE cs∧cs.all (·.oneCell')=true
theorem QZ(wi aT M:Int)(A:Option Addr)(n c:Nat)(m:Option Nat):DSh (.agg #[.int .i64 wi,.int .i64 aT,.int .i64 M,.slice A n c,.map m]):=⟨[.int .i64 wi,.int .i64 aT,.int .i64 M,.slice A n c,.map m],rfl,rfl,by unfold kE;simp,rfl⟩
structure MJ(B:Nat)(old:List (Nat×List Value))(m:Nat)(H:Int->Bool)(nd Bq:Int->Nd)(tv:Value)(t:T)(gr:Nat)(d:Bool)(w:World):Prop where
 old:o5 old w
 iF:B<=w.heap.size
 no:d=false->dO w m H nd
 yes:d=true->dO w m H Bq
 tr:aQ w tv t
 rt:ak w gr Vf DW
theorem MJ.below{B:Nat}{old:List (Nat×List Value)}{m:Nat}{H:Int->Bool}{nd Bq:Int->Nd}{tv:Value}{t:T}{gr:Nat}{d:Bool}{w w':World}(h:MJ B old m H nd Bq tv t gr d w)(hb:bz w w'):MJ B old m H nd Bq tv t gr d w':=
 ⟨h.old.below hb,Nat.le_trans h.iF hb.size,fun e=>(h.no e).below hb,fun e=>(h.yes e).below hb,h.tr.below hb,h.rt.stays (hb.block _ h.rt.inside)⟩
theorem o5.grown{w w':World}{m:Nat}{H:Int->Bool}{nd:Int->Nd}(hm:dO w m H nd)(hg:w.grownBy w' (some m)):∀{old:List (Nat×List Value)},o5 old w->o5 old w'
 |[],_=>trivial
 |_::_,h=>⟨h.1.stays (hg.block _ h.1.inside fun e=>hm.tY h.1 (Option.some.inj e)),o5.grown hm hg h.2⟩
theorem MJ.store{B:Nat}{old:List (Nat×List Value)}{m:Nat}{H:Int->Bool}{nd:Int->Nd}{tv:Value}{u t:T}{gr:Nat}{w:World}{i:Int}{n:Nd}{v:Value}(h:MJ B old m H nd (upd nd i n) tv u gr false w)(hH:∀i,H i=has t i)(hn:t.length<=100000)(hi:I64 i)(hh:H i=true)(hv:wW w v n)(hm:B<=m) :
  ∃w',(Instr.mapUpdate yN (.map (some m)) (.int .i64 i) v).run prog w=.ok () w'∧MJ B old m H nd (upd nd i n) tv u gr true w'∧Below B w w':=by
 have h0:=h.no rfl;obtain⟨w',hrun,hd,hg⟩:=h0.store hH hn hi hh hv;refine⟨w',hrun,⟨o5.grown h0 hg h.old,Nat.le_trans h.iF hg.size,nofun,fun _=>hd,h.tr.grown h0 hg,h.rt.stays (hg.block _ h.rt.inside fun e=>h0.tY h.rt.blk (Option.some.inj e))⟩,bR.grown hg h.iF fun j e=>by cases e;exact hm⟩
def Ba(wi aT M:Int)(r:aK×Int)(w:World)(e:Ending)(w':World):Prop:=∃v',e=.returned (.tuple #[v',.int .i64 r.2])∧DSh v'∧(r.2=0->fE w' v' wi aT M r.1)∧bz w w'
theorem a2u(o:dM)(Ao:Option Addr)(co:Nat)(wi aT M:Int)(tv:Value)(x:aK)(m:Nat)(ok:Ok x.t)(hn:x.t.length<=900)(hg:Good x)(hfx:∀i,Fit (x.nd i))(ho:kX o)(w:World)(hr:ny w Ao o.lk.l)(ht:aQ w tv x.t)(hm:dO w m (has x.t) x.nd)(h1:o.k=1):Calls prog 55 #[.agg #[.int .i64 wi,.int .i64 aT,.int .i64 M,tv,.map (some m)],.agg (o.fH Ao co).toArray] w (Ba wi aT M (fG M x o) w):=by
 obtain⟨At,ct,rfl,hrt,hy⟩:=ht
 have HT:Hid (aQ w (.slice At x.t.length ct) x.t):=⟨At,ct,rfl,hrt,hy⟩
 have Rh:=Hd hm;have HR:=Hd hr;have dX:=Hd ok;have HN:=Hd hn;have HG:=Hd hg;have Jj:=Hd hfx;have HO:=Hd ho;unfold Ba
 obtain⟨R,hR⟩:=aC (fG M x o)
 have HE:=Hd hR;rw[hR];clear hR hm hr hrt hy ok hn hg hfx ho;have HB0:Hid (bz w (((w.alloc (.cells (Vb wi aT M At x.t.length ct m).toArray 30)).alloc (.cells (o.fH Ao co).toArray 154)).alloc (.cells Vf.toArray 30))):=((bR.alloc nR _).alloc (by simp) _).alloc (by simp;omega) _;have lY:Hid (ak (((w.alloc (.cells (Vb wi aT M At x.t.length ct m).toArray 30)).alloc (.cells (o.fH Ao co).toArray 154)).alloc (.cells Vf.toArray 30)) w.heap.size (Vb wi aT M At x.t.length ct m) 30):=((ak.new w (Vb wi aT M At x.t.length ct m) 30).al _).al _
 have jO:Hid (az (((w.alloc (.cells (Vb wi aT M At x.t.length ct m).toArray 30)).alloc (.cells (o.fH Ao co).toArray 154)).alloc (.cells Vf.toArray 30)) (w.heap.size+1) (o.fH Ao co)):=(aZ (w.alloc _) _ (by simp) (o.fH Ao co) _).alloc _;have jk:Hid (ak (((w.alloc (.cells (Vb wi aT M At x.t.length ct m).toArray 30)).alloc (.cells (o.fH Ao co).toArray 154)).alloc (.cells Vf.toArray 30)) (w.heap.size+2) Vf 30):=jK ((w.alloc _).alloc _) _ (by simp) Vf 30;go_enter func55,ntmps55
 go_upto_region 1 with(fail)
 generalize (((w.alloc (.cells (Vb wi aT M At x.t.length ct m).toArray 30)).alloc (.cells (o.fH Ao co).toArray 154)).alloc (.cells Vf.toArray 30))=w0 at*;have c0:=jO.o.c 0 rfl;have c1:=jO.o.c 1 rfl;have c2:=jO.o.c 2 rfl;have c3:=jO.o.c 3 rfl;have ci:w.heap.size+1<w0.heap.size:=jO.o.inside;have s3:w0.cell? ⟨w.heap.size,3,none⟩=some (.slice At x.t.length ct):=lY.o.blk.cell 3;have si:w.heap.size<w0.heap.size:=lY.o.inside;have t1:(o.k==1)=true:=by simpa using h1
 have lZ:Hid (R=fB M x o.i o.p o.n):=by show _=_;rw[←HE.o];unfold fG;rw[if_pos h1]
 clear h1 HE;go_wp2_with (fail);refine(a4j _ x.t o.i o.p o.n w0 (HT.o.below HB0.o) (by have:=HN.o;omega)).mono ?_;rintro e w1 ⟨v1,rfl,hd1,hb1⟩;have HB1:=Hd (HB0.o.trans (hb1.mono HB0.o.size));have gm:=Hd (ak.stays lY.o ((hb1).block _ lY.o.inside));have jr:=Hd (ak.stays jk.o ((hb1).block _ jk.o.inside));have wQ:=Hd (jO.o.below' hb1);clear hb1 lY jO jk HB0 c0 c1 c2 c3 ci s3 si
 obtain⟨⟨t1',e1⟩,hq⟩:∃q,gX x.t o.i o.p o.n=q:=⟨_,rfl⟩
 have HQ:=Hd hq;unfold fB at lZ;rw[hq]at lZ hd1 ⊢;simp only at lZ hd1 ⊢;clear hq;obtain⟨A1,n1,rfl,hr1,hy1⟩:=hd1
 have HD1:Hid (aQ w1 (.slice A1 t1'.length n1) t1'):=⟨A1,n1,rfl,hr1,hy1⟩
 clear hr1 hy1;by_cases he:¬e1=0
 ·have q:(e1==0)=false:=by simpa using he
  have HE2:Hid (R=(x,e1)):=by show _=_;rw[lZ.o,if_pos he]
  have Jh:=Hd he;clear lZ he;go_wp2_with (first|(with_reducible refine gL ?_;first|(refine wt 30 0 rfl rfl rfl gm.o.blk ((Vb wi aT M At x.t.length ct m)) rfl underlying30 rfl ?_))|(with_reducible refine gS ?_;first|(refine ay 30 _ _ rfl rfl rfl _ 0 rfl ((Vb wi aT M At x.t.length ct m)) rfl (Vf) jr.o.blk ((Vb wi aT M At x.t.length ct m)) rfl (nE rfl) ag rfl ?_;intro w2 HW2 dF)));rw[HE2.o]
  exact aS rfl rfl rfl dF.o underlying30 rfl ag ⟨_,rfl,QZ _ _ _ _ _ _ _,fun e=>absurd e Jh.o,HW2.o.below HB1.o (by omega)⟩
 ·obtain rfl:e1=0:=Decidable.not_not.1 he;clear he;have q:((0:Int)==0)=true:=by decide
  obtain⟨bk1,bk2,bk3,bk4,-,-⟩:=qR dX.o HQ.o;have AU:=Hd (IB dX.o HQ.o);have Yx:Hid (∀j,has t1' j=true↔j=o.i∨has x.t j=true):=bk4;have a0Z:=Hd bk1;have HTI:Hid (has t1' o.i=true):=aj.2 (.inr bk2);clear bk1 bk2 bk3 bk4;rw[if_neg (by decide)]at lZ;have hxn:(x.t.length:Int)<=900:=by have:=HN.o;omega
  have s2:w1.cell? ⟨w.heap.size,2,none⟩=some (.int .i64 M):=gm.o.blk.cell 2;have s3:w1.cell? ⟨w.heap.size,3,none⟩=some (.slice At x.t.length ct):=gm.o.blk.cell 3;have si:w.heap.size<w1.heap.size:=gm.o.inside;by_cases hM:M<((x.t.length+2:Nat):Int)
  ·have q2:decide (M<=(x.t.length:Int)+1)=true:=decide_eq_true (by omega);have HE2:Hid (R=(x,36)):=by show _=_;rw[lZ.o,if_pos hM]
   clear lZ hM;go_wp2_with (first|(with_reducible refine gL ?_;first|(refine wt 30 0 rfl rfl rfl gm.o.blk ((Vb wi aT M At x.t.length ct m)) rfl underlying30 rfl ?_))|(with_reducible refine gS ?_;first|(refine ay 30 _ _ rfl rfl rfl _ 0 rfl ((Vb wi aT M At x.t.length ct m)) rfl (Vf) jr.o.blk ((Vb wi aT M At x.t.length ct m)) rfl (nE rfl) ag rfl ?_;intro w2 HW2 dF)));rw[HE2.o]
   exact aS rfl rfl rfl dF.o underlying30 rfl ag ⟨_,rfl,QZ _ _ _ _ _ _ _,fun e=>absurd (show(36:Int)=0 from e) (by decide),HW2.o.below HB1.o (by omega)⟩
  ·have q2:decide (M<=(x.t.length:Int)+1)=false:=decide_eq_false (by omega);have HE2:Hid (R=(⟨t1',upd x.nd o.i Nd.plain,upd x.ws o.i Mp.o⟩,0)):=by show _=_;rw[lZ.o,if_neg hM]
   clear lZ hM;have f3:w1.frozen? ⟨w.heap.size,3,none⟩=false:=gm.o.blk.free 3
   go_upto_region 8 with(fail)
   have HS:Hid (Wrote w.heap.size w1 (w1.setCell ⟨w.heap.size,3,none⟩ (.slice A1 t1'.length n1))):=⟨3,[.slice A1 t1'.length n1],rfl⟩
   have lW:Hid (ak (w1.setCell ⟨w.heap.size,3,none⟩ (.slice A1 t1'.length n1)) w.heap.size (Vb wi aT M A1 t1'.length n1 m) 30):=gm.o.set 3 _;generalize hwq:(w1.setCell ⟨w.heap.size,3,none⟩ (.slice A1 t1'.length n1))=w2 at*;clear hwq;have HB2:Hid (bz w w2):=HS.o.below HB1.o nR;have kY:Hid (ak w2 (w.heap.size+2) Vf 30):=jr.o.stays (HS.o.far (by omega));have kZ:=Hd (HS.o.blk (show w.heap.size+1≠w.heap.size by omega) wQ.o);have HD2:Hid (aQ w2 (.slice A1 t1'.length n1) t1'):=HD1.o.wrote gm.o (by decide) HS.o
   go_wp2_with (first|(with_reducible refine gL ?_;first|(refine wt 30 0 rfl rfl rfl lW.o.blk ((Vb wi aT M A1 t1'.length n1 m)) rfl underlying30 rfl ?_)));refine(mO wi aT M _ t1' m (has x.t) x.nd a0Z.o (by have:=AU.o;have:=HN.o;omega) w2 HD2.o (Rh.o.below HB2.o)).mono ?_;rintro e w3 ⟨m',rfl,hdm,hbq,xu⟩;have YA:=Hd hdm;have a2Z:Hid (w.heap.size<=m'):=Nat.le_trans HB2.o.size xu;have HD3:=Hd (HD2.o.below hbq);have HB3:=Hd (HB2.o.trans (hbq.mono HB2.o.size));have wO:=Hd (ak.stays lW.o ((hbq).block _ lW.o.inside))
   have sH:=Hd (ak.stays kY.o ((hbq).block _ kY.o.inside));have I4:=Hd (kZ.o.below' hbq);clear hdm hbq xu s2 s3 si f3 lW kY kZ HD2 HB2 HS gm jr wQ HD1 HB1;have HMM:Hid (w.heap.size+2≠m'):=YA.o.tY sH.o.blk
   go_upto_region 9 with(first|(with_reducible refine gS ?_;first|(refine ay 30 _ _ rfl rfl rfl _ 0 rfl ((Vb wi aT M A1 t1'.length n1 m')) rfl ((Vb wi aT M A1 t1'.length n1 m)) wO.o.blk ((Vb wi aT M A1 t1'.length n1 m')) rfl (nE rfl) ag rfl ?_;intro w4 xE og)))
   have HD4:Hid (aQ w4 (.slice A1 t1'.length n1) t1'):=HD3.o.wrote wO.o (by decide) xE.o;have a4W:Hid (dO w4 m' (has t1') (SN (has x.t) x.nd)):=YA.o.wrote wO.o.blk (by unfold kE;simp) xE.o;have HB4:Hid (bz w w4):=xE.o.below HB3.o nR;have wP:Hid (ak w4 (w.heap.size+2) Vf 30):=sH.o.stays (xE.o.far (by omega));have LQ:=Hd (xE.o.blk (show w.heap.size+1≠w.heap.size by omega) I4.o)
   have AV:Hid (MJ w.heap.size [(w.heap.size,(Vb wi aT M A1 t1'.length n1 m')),(w.heap.size+1,o.fH Ao co),(w.heap.size+2,Vf)] m' (has t1') (SN (has x.t) x.nd) (upd (SN (has x.t) x.nd) o.i Nd.plain) (.slice A1 t1'.length n1) t1' (w.heap.size+2) false w4):=⟨⟨og.o,LQ.o,wP.o.blk,trivial⟩,HB4.o.size,fun _=>a4W.o,nofun,HD4.o,wP.o⟩
   have HMG:Hid (w.heap.size<=m'):=a2Z.o;have HMI:Hid (t1'.length<=100000):=by have:=AU.o;have:=HN.o;show _<=_;omega
   refine wR (Below w.heap.size) (fun L wx=>MJ w.heap.size [(w.heap.size,(Vb wi aT M A1 t1'.length n1 m')),(w.heap.size+1,o.fH Ao co),(w.heap.size+2,Vf)] m' (has t1') (SN (has x.t) x.nd) (upd (SN (has x.t) x.nd) o.i Nd.plain) (.slice A1 t1'.length n1) t1' (w.heap.size+2) (L 5) wx) [46,47,48,49,50] (fun _=>bR) (fun _ _ _ h k=>h.trans k) (fun i=>match i with
    |0=>rp w.heap.size 4
    |1=>rV (.map (some m'))
    |2=>rp (w.heap.size+1) 1
    |3=>rV (.int .i64 o.i)
    |4=>rV (.agg (Nd.plain.cs none 0).toArray)
    |_=>ra) (bR.drew) (AV.o.below bR.drew) ⟨?_,?_,?_,?_,?_,?_,trivial⟩ ?_
   any_goals (first|refine zp fun L a w1 hh=>?_|fail)
   have h2:=hh.p 2 w.heap.size 0;have i0:=(hh.st.old.1).inside;rotate_left;have h46:=rq (hh.d 0 46);have ⟨c0,i0⟩:=(hh.st.old.1).ci 4 rfl;rotate_left;have h3:=hh.p 3 ((w.heap.size+1)) 0;have i0:=(hh.st.old.2.1).inside;rotate_left;have h48:=rq (hh.d 2 48);have ⟨c0,i0⟩:=(hh.st.old.2.1).ci 1 rfl;rotate_left
   ·have hC:=Hd (zY w1);have hJ:=hh.j;clear hh;go_simp;refine hC.o.mono ?_;rintro e w9 ⟨rfl,bD⟩;exact⟨_,rfl,bD.mono hJ.o.iF,rfl,hJ.o.below bD⟩
   ·have h47:=rq (hh.d 1 47);have h49:=rq (hh.d 3 49);have h50:=rq (hh.d 4 50);have hj:=hh.st;rw[hh.un]at hj;obtain⟨w9,hrun,Y9,bD⟩:=hj.store (n:=Nd.plain) (fun _=>rfl) HMI.o HO.o.i HTI.o ⟨none,0,rfl,ny.none_ rfl⟩ HMG.o;unfold Nd.v at hrun;have hJ9:=Hd Y9;have gJ:=Hd bD;clear hh hj Y9 bD;go_simp;exact⟨gJ.o,⟨undef,trivial⟩,hJ9.o⟩
   any_goals (have hJ:=hh.j;clear hh;go_simp;exact⟨_,rfl,bR,rfl,hJ.o⟩)
   intro L w5 val hL hJ hR hv;have kN:=Hd hR;have hj5:=hJ;rw[hL 5 (by decide)]at hj5;have HJ5:=Hd hj5;clear hv hL hJ hR hj5;simp only[regs.aG,List.map_cons,List.map_nil];simp only[Act.put,List.setIfInBounds_toArray,List.set_cons_zero,List.set_cons_succ]
   skip
   have VN:=Hd HJ5.o.old.1;have QK:=Hd HJ5.o.old.2.2.1;have gQ:Hid (bz w w5):=HB4.o.trans kN.o;have a4O:Hid (ak w5 (w.heap.size+2) Vf 30):=HJ5.o.rt
   have HDC:Hid (fE w5 (.agg (Vb wi aT M A1 t1'.length n1 m').toArray) wi aT M ⟨t1',upd x.nd o.i Nd.plain,upd x.ws o.i Mp.o⟩):=⟨_,m',rfl,HJ5.o.tr,(HJ5.o.yes rfl).alike (fun _=>rfl) fun j hj=>by
    show upd x.nd o.i Nd.plain j=upd (SN (has x.t) x.nd) o.i Nd.plain j;by_cases e:j=o.i
    ·rw[e,upd_same,upd_same]
    ·rw[upd_ne _ e,upd_ne _ e]
     exact(if_pos (((Yx.o j).1 hj).resolve_left e)).symm⟩
   go_wp2_with (first|(with_reducible refine gL ?_;first|(refine wt 30 0 rfl rfl rfl VN.o ((Vb wi aT M A1 t1'.length n1 m')) rfl underlying30 rfl ?_))|(with_reducible refine gS ?_;first|(refine ay 30 _ _ rfl rfl rfl _ 0 rfl ((Vb wi aT M A1 t1'.length n1 m')) rfl (Vf) QK.o ((Vb wi aT M A1 t1'.length n1 m')) rfl (nE rfl) ag rfl ?_;intro w6 uM QM)));rw[HE2.o]
   exact aS rfl rfl rfl QM.o underlying30 rfl ag ⟨_,rfl,QZ _ _ _ _ _ _ _,fun _=>HDC.o.wrote a4O.o (by decide) (by unfold kE;simp) uM.o,uM.o.below gQ.o (by omega)⟩
theorem a2t(o:dM)(Ao:Option Addr)(co:Nat)(wi aT M:Int)(tv:Value)(x:aK)(m:Nat)(ok:Ok x.t)(hn:x.t.length<=900)(hg:Good x)(hfx:∀i,Fit (x.nd i))(ho:kX o)(w:World)(hr:ny w Ao o.lk.l)(ht:aQ w tv x.t)(hm:dO w m (has x.t) x.nd)(h2:o.k=2):Calls prog 55 #[.agg #[.int .i64 wi,.int .i64 aT,.int .i64 M,tv,.map (some m)],.agg (o.fH Ao co).toArray] w (Ba wi aT M (fG M x o) w):=by
 have h1:¬o.k=1:=by omega
 obtain⟨At,ct,rfl,hrt,hy⟩:=ht
 have HT:Hid (aQ w (.slice At x.t.length ct) x.t):=⟨At,ct,rfl,hrt,hy⟩
 have Rh:=Hd hm;have HR:=Hd hr;have dX:=Hd ok;have HN:=Hd hn;have HG:=Hd hg;have Jj:=Hd hfx;have HO:=Hd ho;unfold Ba
 obtain⟨R,hR⟩:=aC (fG M x o)
 have HE:=Hd hR;rw[hR];clear hR hm hr hrt hy ok hn hg hfx ho;have HB0:Hid (bz w (((w.alloc (.cells (Vb wi aT M At x.t.length ct m).toArray 30)).alloc (.cells (o.fH Ao co).toArray 154)).alloc (.cells Vf.toArray 30))):=((bR.alloc nR _).alloc (by simp) _).alloc (by simp;omega) _;have lY:Hid (ak (((w.alloc (.cells (Vb wi aT M At x.t.length ct m).toArray 30)).alloc (.cells (o.fH Ao co).toArray 154)).alloc (.cells Vf.toArray 30)) w.heap.size (Vb wi aT M At x.t.length ct m) 30):=((ak.new w (Vb wi aT M At x.t.length ct m) 30).al _).al _
 have jO:Hid (az (((w.alloc (.cells (Vb wi aT M At x.t.length ct m).toArray 30)).alloc (.cells (o.fH Ao co).toArray 154)).alloc (.cells Vf.toArray 30)) (w.heap.size+1) (o.fH Ao co)):=(aZ (w.alloc _) _ (by simp) (o.fH Ao co) _).alloc _;have jk:Hid (ak (((w.alloc (.cells (Vb wi aT M At x.t.length ct m).toArray 30)).alloc (.cells (o.fH Ao co).toArray 154)).alloc (.cells Vf.toArray 30)) (w.heap.size+2) Vf 30):=jK ((w.alloc _).alloc _) _ (by simp) Vf 30;go_enter func55,ntmps55
 go_upto_region 1 with(fail)
 generalize (((w.alloc (.cells (Vb wi aT M At x.t.length ct m).toArray 30)).alloc (.cells (o.fH Ao co).toArray 154)).alloc (.cells Vf.toArray 30))=w0 at*;have c0:=jO.o.c 0 rfl;have c1:=jO.o.c 1 rfl;have ci:w.heap.size+1<w0.heap.size:=jO.o.inside;have s3:w0.cell? ⟨w.heap.size,3,none⟩=some (.slice At x.t.length ct):=lY.o.blk.cell 3;have si:w.heap.size<w0.heap.size:=lY.o.inside;have t1:(o.k==1)=false:=by simpa using h1
 have t2:(o.k==2)=true:=by simpa using h2
 have lZ:Hid (R=fM x o.i):=by show _=_;rw[←HE.o];unfold fG;rw[if_neg h1,if_pos h2]
 clear h1 h2 HE;go_wp2_with (fail);refine(a4i _ x.t o.i w0 dX.o (HT.o.below HB0.o) (by have:=HN.o;omega)).mono ?_;rintro e w1 ⟨v1,u1,rfl,hd1,-,hb1⟩;have HB1:=Hd (HB0.o.trans (hb1.mono HB0.o.size));have gm:=Hd (ak.stays lY.o ((hb1).block _ lY.o.inside));have jr:=Hd (ak.stays jk.o ((hb1).block _ jk.o.inside));have wQ:=Hd (jO.o.below' hb1);clear hb1 lY jO jk HB0 c0 c1 ci s3 si;have Zx:=Hd (tC dX.o o.i)
 obtain⟨⟨t1',k1,e1⟩,hq⟩:∃q,jG x.t o.i=q:=⟨_,rfl⟩
 have HQ:=Hd hq;unfold fM at lZ;rw[hq]at lZ Zx hd1 ⊢;simp only at lZ Zx hd1 ⊢;clear hq;obtain⟨A1,n1,rfl,hr1,hy1⟩:=hd1
 have HD1:Hid (aQ w1 (.slice A1 t1'.length n1) t1'):=⟨A1,n1,rfl,hr1,hy1⟩
 clear hr1 hy1;by_cases he:¬e1=0
 ·have q:(e1==0)=false:=by simpa using he
  have HE2:Hid (R=(x,e1)):=by show _=_;rw[lZ.o,if_pos he]
  have Jh:=Hd he;clear lZ he;go_wp2_with (first|(with_reducible refine gL ?_;first|(refine wt 30 0 rfl rfl rfl gm.o.blk ((Vb wi aT M At x.t.length ct m)) rfl underlying30 rfl ?_))|(with_reducible refine gS ?_;first|(refine ay 30 _ _ rfl rfl rfl _ 0 rfl ((Vb wi aT M At x.t.length ct m)) rfl (Vf) jr.o.blk ((Vb wi aT M At x.t.length ct m)) rfl (nE rfl) ag rfl ?_;intro w2 HW2 dF)));rw[HE2.o]
  exact aS rfl rfl rfl dF.o underlying30 rfl ag ⟨_,rfl,QZ _ _ _ _ _ _ _,fun e=>absurd e Jh.o,HW2.o.below HB1.o (by omega)⟩
 ·obtain rfl:e1=0:=Decidable.not_not.1 he;clear he;have q:((0:Int)==0)=true:=by decide
  have HE2:Hid (R=(⟨t1',x.nd,x.ws⟩,0)):=by show _=_;rw[lZ.o,if_neg (by decide)]
  have a0Z:Hid (Ok t1'):=Zx.o.1;have AU:Hid (t1'.length<=x.t.length):=Zx.o.2
  have Yx:Hid (∀j,has t1' j=true->has x.t j=true):=fun j hj=>by
   obtain⟨y1,y2⟩:=yS (t:=x.t) (i:=o.i) (by rw[HQ.o]);rw[HQ.o]at y2
   injection y2 with y2 _
   rw[y2]at hj;exact((zH dX.o y1).1 hj).2
  clear lZ Zx;have s3:w1.cell? ⟨w.heap.size,3,none⟩=some (.slice At x.t.length ct):=gm.o.blk.cell 3;have si:w.heap.size<w1.heap.size:=gm.o.inside;have f3:w1.frozen? ⟨w.heap.size,3,none⟩=false:=gm.o.blk.free 3
  go_upto_region 16 with(fail)
  have HS:Hid (Wrote w.heap.size w1 (w1.setCell ⟨w.heap.size,3,none⟩ (.slice A1 t1'.length n1))):=⟨3,[.slice A1 t1'.length n1],rfl⟩
  have lW:Hid (ak (w1.setCell ⟨w.heap.size,3,none⟩ (.slice A1 t1'.length n1)) w.heap.size (Vb wi aT M A1 t1'.length n1 m) 30):=gm.o.set 3 _;generalize hwq:(w1.setCell ⟨w.heap.size,3,none⟩ (.slice A1 t1'.length n1))=w2 at*;clear hwq;have HB2:Hid (bz w w2):=HS.o.below HB1.o nR;have kY:Hid (ak w2 (w.heap.size+2) Vf 30):=jr.o.stays (HS.o.far (by omega));have kZ:=Hd (HS.o.blk (show w.heap.size+1≠w.heap.size by omega) wQ.o);have HD2:Hid (aQ w2 (.slice A1 t1'.length n1) t1'):=HD1.o.wrote gm.o (by decide) HS.o
  go_wp2_with (first|(with_reducible refine gL ?_;first|(refine wt 30 0 rfl rfl rfl lW.o.blk ((Vb wi aT M A1 t1'.length n1 m)) rfl underlying30 rfl ?_)));refine(mO wi aT M _ t1' m (has x.t) x.nd a0Z.o (by have:=AU.o;have:=HN.o;omega) w2 HD2.o (Rh.o.below HB2.o)).mono ?_;rintro e w3 ⟨m',rfl,hdm,hbq,xu⟩;have YA:=Hd hdm;have a2Z:Hid (w.heap.size<=m'):=Nat.le_trans HB2.o.size xu;have HD3:=Hd (HD2.o.below hbq);have HB3:=Hd (HB2.o.trans (hbq.mono HB2.o.size));have wO:=Hd (ak.stays lW.o ((hbq).block _ lW.o.inside))
  have sH:=Hd (ak.stays kY.o ((hbq).block _ kY.o.inside));have I4:=Hd (kZ.o.below' hbq);clear hdm hbq s3 si f3 xu lW kY kZ HD2 HB2 HS gm jr wQ HD1 HB1;go_wp2_with (first|(with_reducible refine gS ?_;first|(refine ay 30 _ _ rfl rfl rfl _ 0 rfl ((Vb wi aT M A1 t1'.length n1 m')) rfl (Vf) sH.o.blk ((Vb wi aT M A1 t1'.length n1 m')) rfl (nE rfl) ag rfl ?_;intro w4 xE og)));rw[HE2.o]
  exact aS rfl rfl rfl og.o underlying30 rfl ag ⟨_,rfl,QZ _ _ _ _ _ _ _,fun _=>⟨_,m',rfl,HD3.o.wrote sH.o (by decide) xE.o,(YA.o.wrote sH.o.blk (by unfold kE;simp) xE.o).alike (fun _=>rfl) fun j hj=>(if_pos (Yx.o j hj)).symm⟩,xE.o.below HB3.o (by omega)⟩
theorem a2s(o:dM)(Ao:Option Addr)(co:Nat)(wi aT M:Int)(tv:Value)(x:aK)(m:Nat)(ok:Ok x.t)(hn:x.t.length<=900)(hg:Good x)(hfx:∀i,Fit (x.nd i))(ho:kX o)(w:World)(hr:ny w Ao o.lk.l)(ht:aQ w tv x.t)(hm:dO w m (has x.t) x.nd)(h3:o.k=3):Calls prog 55 #[.agg #[.int .i64 wi,.int .i64 aT,.int .i64 M,tv,.map (some m)],.agg (o.fH Ao co).toArray] w (Ba wi aT M (fG M x o) w):=by
 have h1:¬o.k=1:=by omega
 have h2:¬o.k=2:=by omega
 obtain⟨At,ct,rfl,hrt,hy⟩:=ht
 have HT:Hid (aQ w (.slice At x.t.length ct) x.t):=⟨At,ct,rfl,hrt,hy⟩
 have Rh:=Hd hm;have HR:=Hd hr;have dX:=Hd ok;have HN:=Hd hn;have HG:=Hd hg;have Jj:=Hd hfx;have HO:=Hd ho;unfold Ba
 obtain⟨R,hR⟩:=aC (fG M x o)
 have HE:=Hd hR;rw[hR];clear hR hm hr hrt hy ok hn hg hfx ho;have HB0:Hid (bz w (((w.alloc (.cells (Vb wi aT M At x.t.length ct m).toArray 30)).alloc (.cells (o.fH Ao co).toArray 154)).alloc (.cells Vf.toArray 30))):=((bR.alloc nR _).alloc (by simp) _).alloc (by simp;omega) _;have lY:Hid (ak (((w.alloc (.cells (Vb wi aT M At x.t.length ct m).toArray 30)).alloc (.cells (o.fH Ao co).toArray 154)).alloc (.cells Vf.toArray 30)) w.heap.size (Vb wi aT M At x.t.length ct m) 30):=((ak.new w (Vb wi aT M At x.t.length ct m) 30).al _).al _
 have jO:Hid (az (((w.alloc (.cells (Vb wi aT M At x.t.length ct m).toArray 30)).alloc (.cells (o.fH Ao co).toArray 154)).alloc (.cells Vf.toArray 30)) (w.heap.size+1) (o.fH Ao co)):=(aZ (w.alloc _) _ (by simp) (o.fH Ao co) _).alloc _;have jk:Hid (ak (((w.alloc (.cells (Vb wi aT M At x.t.length ct m).toArray 30)).alloc (.cells (o.fH Ao co).toArray 154)).alloc (.cells Vf.toArray 30)) (w.heap.size+2) Vf 30):=jK ((w.alloc _).alloc _) _ (by simp) Vf 30;go_enter func55,ntmps55
 go_upto_region 1 with(fail)
 generalize (((w.alloc (.cells (Vb wi aT M At x.t.length ct m).toArray 30)).alloc (.cells (o.fH Ao co).toArray 154)).alloc (.cells Vf.toArray 30))=w0 at*;have c0:=jO.o.c 0 rfl;have c1:=jO.o.c 1 rfl;have c2:=jO.o.c 2 rfl;have c3:=jO.o.c 3 rfl;have ci:w.heap.size+1<w0.heap.size:=jO.o.inside;have s3:w0.cell? ⟨w.heap.size,3,none⟩=some (.slice At x.t.length ct):=lY.o.blk.cell 3;have si:w.heap.size<w0.heap.size:=lY.o.inside;have t1:(o.k==1)=false:=by simpa using h1
 have t2:(o.k==2)=false:=by simpa using h2
 have t3:(o.k==3)=true:=by simpa using h3
 have lZ:Hid (R=lN x o.i o.p o.n):=by show _=_;rw[←HE.o];unfold fG;rw[if_neg h1,if_neg h2,if_pos h3]
 clear h1 h2 h3 HE;go_wp2_with (fail);refine(a2p _ x.t o.i o.p o.n w0 dX.o (HT.o.below HB0.o) (by have:=HN.o;omega)).mono ?_;rintro e w1 ⟨v1,rfl,hd1,hb1⟩;have HB1:=Hd (HB0.o.trans (hb1.mono HB0.o.size));have gm:=Hd (ak.stays lY.o ((hb1).block _ lY.o.inside));have jr:=Hd (ak.stays jk.o ((hb1).block _ jk.o.inside));have wQ:=Hd (jO.o.below' hb1);clear hb1 lY jO jk HB0 c0 c1 c2 c3 ci s3 si
 obtain⟨⟨t1',e1⟩,hq⟩:∃q,jU x.t o.i o.p o.n=q:=⟨_,rfl⟩
 have HQ:=Hd hq;unfold lN at lZ;rw[hq]at lZ hd1 ⊢;simp only at lZ hd1 ⊢;clear hq;obtain⟨A1,n1,rfl,hr1,hy1⟩:=hd1
 have HD1:Hid (aQ w1 (.slice A1 t1'.length n1) t1'):=⟨A1,n1,rfl,hr1,hy1⟩
 clear hr1 hy1
 have HR2:Hid (R.2=e1∧(e1=0->R.1=⟨t1',x.nd,x.ws⟩)):=by
  by_cases he:e1=0
  ·subst he;rw[show R=_ from lZ.o,if_neg (by decide)];exact⟨rfl,fun _=>rfl⟩
  ·rw[show R=_ from lZ.o,if_pos he];exact⟨rfl,fun e=>absurd e he⟩
 have Yx:Hid (e1=0->∀j,has t1' j=has x.t j):=fun he j=>by
  subst he;obtain⟨y1,y2,-⟩:=zh (t:=x.t) (i:=o.i) (p:=o.p) (n:=o.n) (by rw[HQ.o]);rw[HQ.o]at y1;simp only at y1;rw[Bool.eq_iff_iff,aj,aj,y1,iL y2]
 clear lZ;have s3:w1.cell? ⟨w.heap.size,3,none⟩=some (.slice At x.t.length ct):=gm.o.blk.cell 3;have si:w.heap.size<w1.heap.size:=gm.o.inside;have f3:w1.frozen? ⟨w.heap.size,3,none⟩=false:=gm.o.blk.free 3
 go_upto_region 20 with(fail)
 have HS:Hid (Wrote w.heap.size w1 (w1.setCell ⟨w.heap.size,3,none⟩ (.slice A1 t1'.length n1))):=⟨3,[.slice A1 t1'.length n1],rfl⟩
 have lW:Hid (ak (w1.setCell ⟨w.heap.size,3,none⟩ (.slice A1 t1'.length n1)) w.heap.size (Vb wi aT M A1 t1'.length n1 m) 30):=gm.o.set 3 _;generalize hwq:(w1.setCell ⟨w.heap.size,3,none⟩ (.slice A1 t1'.length n1))=w2 at*;clear hwq;have HB2:Hid (bz w w2):=HS.o.below HB1.o nR;have kY:Hid (ak w2 (w.heap.size+2) Vf 30):=jr.o.stays (HS.o.far (by omega));have kZ:=Hd (HS.o.blk (show w.heap.size+1≠w.heap.size by omega) wQ.o);have HD2:Hid (aQ w2 (.slice A1 t1'.length n1) t1'):=HD1.o.wrote gm.o (by decide) HS.o;clear s3 si f3
 go_wp2_with (first|(with_reducible refine gL ?_;first|(refine wt 30 0 rfl rfl rfl lW.o.blk ((Vb wi aT M A1 t1'.length n1 m)) rfl underlying30 rfl ?_))|(with_reducible refine gS ?_;first|(refine ay 30 _ _ rfl rfl rfl _ 0 rfl ((Vb wi aT M A1 t1'.length n1 m)) rfl (Vf) kY.o.blk ((Vb wi aT M A1 t1'.length n1 m)) rfl (nE rfl) ag rfl ?_;intro w4 xE og)));rw[HR2.o.1];refine aS rfl rfl rfl og.o underlying30 rfl ag ⟨_,rfl,QZ _ _ _ _ _ _ _,fun e=>?_,xE.o.below HB2.o (by omega)⟩;rw[HR2.o.2 e]
 exact⟨_,m,rfl,HD2.o.wrote kY.o (by decide) xE.o,(Rh.o.below (xE.o.below HB2.o (by omega))).alike (Yx.o e) fun _ _=>rfl⟩
theorem a2r(o:dM)(Ao:Option Addr)(co:Nat)(wi aT M:Int)(tv:Value)(x:aK)(m:Nat)(ok:Ok x.t)(hn:x.t.length<=900)(hg:Good x)(hfx:∀i,Fit (x.nd i))(ho:kX o)(w:World)(hr:ny w Ao o.lk.l)(ht:aQ w tv x.t)(hm:dO w m (has x.t) x.nd)(h9:¬(1<=o.k∧o.k<=8)):Calls prog 55 #[.agg #[.int .i64 wi,.int .i64 aT,.int .i64 M,tv,.map (some m)],.agg (o.fH Ao co).toArray] w (Ba wi aT M (fG M x o) w):=by
 have h1:¬o.k=1:=by omega
 have h2:¬o.k=2:=by omega
 have h3:¬o.k=3:=by omega
 obtain⟨At,ct,rfl,hrt,hy⟩:=ht
 have HT:Hid (aQ w (.slice At x.t.length ct) x.t):=⟨At,ct,rfl,hrt,hy⟩
 have Rh:=Hd hm;have HR:=Hd hr;have dX:=Hd ok;have HN:=Hd hn;have HG:=Hd hg;have Jj:=Hd hfx;have HO:=Hd ho;unfold Ba
 obtain⟨R,hR⟩:=aC (fG M x o)
 have HE:=Hd hR;rw[hR];clear hR hm hr hrt hy ok hn hg hfx ho;have HB0:Hid (bz w (((w.alloc (.cells (Vb wi aT M At x.t.length ct m).toArray 30)).alloc (.cells (o.fH Ao co).toArray 154)).alloc (.cells Vf.toArray 30))):=((bR.alloc nR _).alloc (by simp) _).alloc (by simp;omega) _;have lY:Hid (ak (((w.alloc (.cells (Vb wi aT M At x.t.length ct m).toArray 30)).alloc (.cells (o.fH Ao co).toArray 154)).alloc (.cells Vf.toArray 30)) w.heap.size (Vb wi aT M At x.t.length ct m) 30):=((ak.new w (Vb wi aT M At x.t.length ct m) 30).al _).al _
 have jO:Hid (az (((w.alloc (.cells (Vb wi aT M At x.t.length ct m).toArray 30)).alloc (.cells (o.fH Ao co).toArray 154)).alloc (.cells Vf.toArray 30)) (w.heap.size+1) (o.fH Ao co)):=(aZ (w.alloc _) _ (by simp) (o.fH Ao co) _).alloc _;have jk:Hid (ak (((w.alloc (.cells (Vb wi aT M At x.t.length ct m).toArray 30)).alloc (.cells (o.fH Ao co).toArray 154)).alloc (.cells Vf.toArray 30)) (w.heap.size+2) Vf 30):=jK ((w.alloc _).alloc _) _ (by simp) Vf 30;go_enter func55,ntmps55
 go_upto_region 1 with(fail)
 generalize (((w.alloc (.cells (Vb wi aT M At x.t.length ct m).toArray 30)).alloc (.cells (o.fH Ao co).toArray 154)).alloc (.cells Vf.toArray 30))=w0 at*;have c0:=jO.o.c 0 rfl;have ci:w.heap.size+1<w0.heap.size:=jO.o.inside;have t1:(o.k==1)=false:=by simpa using h1
 have t2:(o.k==2)=false:=by simpa using h2
 have t3:(o.k==3)=false:=by simpa using h3
 have HE2:Hid (R=(x,38)):=by show _=_;rw[←HE.o];unfold fG;rw[if_neg h1,if_neg h2,if_neg h3,if_neg (by omega)]
 clear h1 h2 h3 HE;by_cases hl:o.k<1
 ·have q1:decide (o.k<1)=true:=decide_eq_true hl;clear hl h9;go_wp2_with (first|(with_reducible refine gL ?_;first|(refine wt 30 0 rfl rfl rfl lY.o.blk ((Vb wi aT M At x.t.length ct m)) rfl underlying30 rfl ?_))|(with_reducible refine gS ?_;first|(refine ay 30 _ _ rfl rfl rfl _ 0 rfl ((Vb wi aT M At x.t.length ct m)) rfl (Vf) jk.o.blk ((Vb wi aT M At x.t.length ct m)) rfl (nE rfl) ag rfl ?_;intro w2 HW2 dF)));rw[HE2.o]
  exact aS rfl rfl rfl dF.o underlying30 rfl ag ⟨_,rfl,QZ _ _ _ _ _ _ _,fun e=>absurd (show(38:Int)=0 from e) (by decide),HW2.o.below HB0.o (by omega)⟩
 ·have q1:decide (o.k<1)=false:=decide_eq_false hl;have q2:decide ((8:Int)<o.k)=true:=decide_eq_true (by omega);clear hl h9;go_wp2_with (first|(with_reducible refine gL ?_;first|(refine wt 30 0 rfl rfl rfl lY.o.blk ((Vb wi aT M At x.t.length ct m)) rfl underlying30 rfl ?_))|(with_reducible refine gS ?_;first|(refine ay 30 _ _ rfl rfl rfl _ 0 rfl ((Vb wi aT M At x.t.length ct m)) rfl (Vf) jk.o.blk ((Vb wi aT M At x.t.length ct m)) rfl (nE rfl) ag rfl ?_;intro w2 HW2 dF)));rw[HE2.o]
  exact aS rfl rfl rfl dF.o underlying30 rfl ag ⟨_,rfl,QZ _ _ _ _ _ _ _,fun e=>absurd (show(38:Int)=0 from e) (by decide),HW2.o.below HB0.o (by omega)⟩
theorem a2q(o:dM)(Ao:Option Addr)(co:Nat)(wi aT M:Int)(tv:Value)(x:aK)(m:Nat)(ok:Ok x.t)(hn:x.t.length<=900)(hg:Good x)(hfx:∀i,Fit (x.nd i))(ho:kX o)(w:World)(hr:ny w Ao o.lk.l)(ht:aQ w tv x.t)(hm:dO w m (has x.t) x.nd)(h4:4<=o.k∧o.k<=8):Calls prog 55 #[.agg #[.int .i64 wi,.int .i64 aT,.int .i64 M,tv,.map (some m)],.agg (o.fH Ao co).toArray] w (Ba wi aT M (fG M x o) w):=by
 have h1:¬o.k=1:=by omega
 have h2:¬o.k=2:=by omega
 have h3:¬o.k=3:=by omega
 obtain⟨At,ct,rfl,hrt,hy⟩:=ht
 have HT:Hid (aQ w (.slice At x.t.length ct) x.t):=⟨At,ct,rfl,hrt,hy⟩
 have Rh:=Hd hm;have HR:=Hd hr;have dX:=Hd ok;have HN:=Hd hn;have HG:=Hd hg;have Jj:=Hd hfx;have HO:=Hd ho;unfold Ba
 obtain⟨R,hR⟩:=aC (fG M x o)
 have HE:=Hd hR;rw[hR];clear hR hm hr hrt hy ok hn hg hfx ho;have HB0:Hid (bz w (((w.alloc (.cells (Vb wi aT M At x.t.length ct m).toArray 30)).alloc (.cells (o.fH Ao co).toArray 154)).alloc (.cells Vf.toArray 30))):=((bR.alloc nR _).alloc (by simp) _).alloc (by simp;omega) _;have lY:Hid (ak (((w.alloc (.cells (Vb wi aT M At x.t.length ct m).toArray 30)).alloc (.cells (o.fH Ao co).toArray 154)).alloc (.cells Vf.toArray 30)) w.heap.size (Vb wi aT M At x.t.length ct m) 30):=((ak.new w (Vb wi aT M At x.t.length ct m) 30).al _).al _
 have jO:Hid (az (((w.alloc (.cells (Vb wi aT M At x.t.length ct m).toArray 30)).alloc (.cells (o.fH Ao co).toArray 154)).alloc (.cells Vf.toArray 30)) (w.heap.size+1) (o.fH Ao co)):=(aZ (w.alloc _) _ (by simp) (o.fH Ao co) _).alloc _;have jk:Hid (ak (((w.alloc (.cells (Vb wi aT M At x.t.length ct m).toArray 30)).alloc (.cells (o.fH Ao co).toArray 154)).alloc (.cells Vf.toArray 30)) (w.heap.size+2) Vf 30):=jK ((w.alloc _).alloc _) _ (by simp) Vf 30;go_enter func55,ntmps55
 go_upto_region 1 with(fail)
 generalize (((w.alloc (.cells (Vb wi aT M At x.t.length ct m).toArray 30)).alloc (.cells (o.fH Ao co).toArray 154)).alloc (.cells Vf.toArray 30))=w0 at*;have c0:=jO.o.c 0 rfl;have c1:=jO.o.c 1 rfl;have ci:w.heap.size+1<w0.heap.size:=jO.o.inside;have s3:w0.cell? ⟨w.heap.size,3,none⟩=some (.slice At x.t.length ct):=lY.o.blk.cell 3;have s4:w0.cell? ⟨w.heap.size,4,none⟩=some (.map (some m)):=lY.o.blk.cell 4;have si:w.heap.size<w0.heap.size:=lY.o.inside;have t1:(o.k==1)=false:=by simpa using h1
 have t2:(o.k==2)=false:=by simpa using h2
 have t3:(o.k==3)=false:=by simpa using h3
 have lZ:Hid (R=lI x o):=by show _=_;rw[←HE.o];unfold fG;rw[if_neg h1,if_neg h2,if_neg h3,if_pos h4]
 have q1:decide (o.k<1)=false:=decide_eq_false (by omega);have q2:decide ((8:Int)<o.k)=false:=decide_eq_false (by omega);clear h1 h2 h3 h4 HE;go_wp2_with (fail);refine(Uk At x.t ct o.i w0 (aQ.a1I (HT.o.below HB0.o)) (by have:=HN.o;omega)).mono ?_;rintro e w1 ⟨rfl,hb1⟩;have HB1:=Hd (HB0.o.trans (hb1.mono HB0.o.size));have gm:=Hd (ak.stays lY.o ((hb1).block _ lY.o.inside));have jr:=Hd (ak.stays jk.o ((hb1).block _ jk.o.inside));have wQ:=Hd (jO.o.below' hb1);clear hb1 lY jO jk HB0 c0 c1 ci s3 s4 si q1 q2;unfold lI at lZ
 cases hh:has x.t o.i with
 |false=>
  have HE2:Hid (R=(x,30)):=by show _=_;rw[lZ.o,if_pos hh]
  clear lZ;go_wp2_with (first|(with_reducible refine gL ?_;first|(refine wt 30 0 rfl rfl rfl gm.o.blk ((Vb wi aT M At x.t.length ct m)) rfl underlying30 rfl ?_))|(with_reducible refine gS ?_;first|(refine ay 30 _ _ rfl rfl rfl _ 0 rfl ((Vb wi aT M At x.t.length ct m)) rfl (Vf) jr.o.blk ((Vb wi aT M At x.t.length ct m)) rfl (nE rfl) ag rfl ?_;intro w2 HW2 dF)));rw[HE2.o]
  exact aS rfl rfl rfl dF.o underlying30 rfl ag ⟨_,rfl,QZ _ _ _ _ _ _ _,fun e=>absurd (show(30:Int)=0 from e) (by decide),HW2.o.below HB1.o (by omega)⟩
 |true=>
  have ZI:Hid (has x.t o.i=true):=hh;rw[if_neg (by rw[hh];decide)]at lZ;clear hh;obtain⟨An,cn,hrn,hlk⟩:=Rh.o.look HO.o.i ZI.o;have HLK:=Hd hlk;have Ya:=Hd hrn;have a4d:=hlk w1 HB1.o;clear hlk hrn;have c1:=wQ.o.c 1 rfl;have ci:w.heap.size+1<w1.heap.size:=wQ.o.inside;have s4:w1.cell? ⟨w.heap.size,4,none⟩=some (.map (some m)):=gm.o.blk.cell 4;have si:w.heap.size<w1.heap.size:=gm.o.inside;go_wp2_with (first|(with_reducible refine gL ?_;first|(refine wt 154 0 rfl rfl rfl wQ.o (o.fH Ao co) rfl underlying154 rfl ?_)))
  refine(Ug o Ao co (x.nd o.i) An cn w1).mono ?_;rintro e w2 ⟨rfl,hb2⟩;have HB2:=Hd (HB1.o.trans (hb2.mono HB1.o.size));have lW:=Hd (ak.stays gm.o ((hb2).block _ gm.o.inside));have kY:=Hd (ak.stays jr.o ((hb2).block _ jr.o.inside));have kZ:=Hd (wQ.o.below' hb2);clear hb2 a4d gm wQ jr c1 ci s4 si;have QC:Hid ((bU (x.nd o.i) o).chk=(bU Nd.plain o).chk):=NK (HG.o o.i) o;have WH:Hid (Fit (bU (x.nd o.i) o)):=tK ⟨HO.o.fit.p,HO.o.fit.l,HO.o.fit.len⟩ (Jj.o o.i)
  have LG:Hid (∀W,bz w W->ny W (aX o Ao An) (bU (x.nd o.i) o).lk.l):=fun W hb=>WY (HR.o.below hb) (Ya.o.below hb)
  obtain⟨A7,hA7⟩:∃q,aX o Ao An=q:=⟨_,rfl⟩
  obtain⟨c7,hc7⟩:∃q,aX o co cn=q:=⟨_,rfl⟩
  rw[hA7]at LG;rw[hA7,hc7];clear hA7 hc7
  obtain⟨N1,hN1⟩:=aC (bU (x.nd o.i) o)
  rw[hN1]at QC WH LG lZ ⊢;clear hN1;rw[←QC.o]at lZ;have HZ:Hid (az (w2.alloc (.cells Va.toArray 46)) w2.heap.size Va):=aA w2 Va _;have iZ:Hid (Below w2.heap.size w2 (w2.alloc (.cells Va.toArray 46))):=bR.alloc nR _
  go_upto_region 26 with(first|(with_reducible refine gS ?_;first|(refine ay 46 _ _ rfl rfl rfl _ 0 rfl (N1.cs A7 c7) rfl (Va) HZ.o (N1.cs A7 c7) rfl (nE rfl) ag (Nd.one _ _ _) ?_;intro w3 HW3 dN)))
  obtain⟨z,hz⟩:=aC w2.heap.size
  have iO:Hid (w.heap.size+2<z):=by rw[←hz];exact kY.o.inside
  rw[hz]at HW3 dN HZ iZ ⊢;have HB3:Hid (bz w w3):=HW3.o.below (HB2.o.trans (iZ.o.mono (by have:=iO.o;omega))) (by have:=iO.o;omega);have wO:Hid (ak w3 w.heap.size (Vb wi aT M At x.t.length ct m) 30):=(lW.o.stays (iZ.o.block _ (by have:=iO.o;omega))).stays (HW3.o.far (by have:=iO.o;omega));have sH:Hid (ak w3 (w.heap.size+2) Vf 30):=(kY.o.stays (iZ.o.block _ (by have:=iO.o;omega))).stays (HW3.o.far (by have:=iO.o;omega))
  have I4:Hid (az w3 (w.heap.size+1) (o.fH Ao co)):=HW3.o.blk (show w.heap.size+1≠z by have:=iO.o;omega) (kZ.o.below (iZ.o) (by have:=iO.o;omega));clear lW kY kZ HB2 HZ iZ HW3 hz;go_wp2_with (first|(with_reducible refine gL ?_;first|(refine wt 46 0 rfl rfl rfl dN.o (N1.cs A7 c7) rfl underlying46 rfl ?_)));refine(P5 N1.m N1.op N1.hi N1.cl N1.r N1.lk.k N1.lk.W N1.lk.H N1.lk.p N1.lk.iw N1.lk.ih A7 N1.lk.l c7 WH.o.p WH.o.l (by have:=WH.o.len;unfold maxLen;omega) w3 (LG.o w3 HB3.o).row).mono ?_;rintro e w4 ⟨rfl,hb4⟩
  rw[show JH N1.m N1.op N1.cl N1.r (Bz N1.lk.k N1.lk.W N1.lk.H N1.lk.p N1.lk.iw N1.lk.ih N1.lk.l)=N1.chk from rfl];have HB4:=Hd (HB3.o.trans (hb4.mono HB3.o.size));have VO:=Hd (ak.stays wO.o ((hb4).block _ wO.o.inside));have wP:=Hd (ak.stays sH.o ((hb4).block _ sH.o.inside));have LQ:=Hd (I4.o.below' hb4);have og:=Hd (dN.o.below' hb4);clear hb4 wO sH I4 dN HB3
  obtain⟨e1,he1⟩:=aC N1.chk
  rw[he1]at lZ ⊢;clear he1;by_cases he:¬e1=0
  ·have q:(e1==0)=false:=by simpa using he
   have HE2:Hid (R=(x,e1)):=by show _=_;rw[lZ.o,if_pos he]
   have Jh:=Hd he;clear lZ he;go_wp2_with (first|(with_reducible refine gL ?_;first|(refine wt 30 0 rfl rfl rfl VO.o.blk ((Vb wi aT M At x.t.length ct m)) rfl underlying30 rfl ?_))|(with_reducible refine gS ?_;first|(refine ay 30 _ _ rfl rfl rfl _ 0 rfl ((Vb wi aT M At x.t.length ct m)) rfl (Vf) wP.o.blk ((Vb wi aT M At x.t.length ct m)) rfl (nE rfl) ag rfl ?_;intro w5 yA uX)));rw[HE2.o]
   exact aS rfl rfl rfl uX.o underlying30 rfl ag ⟨_,rfl,QZ _ _ _ _ _ _ _,fun e=>absurd e Jh.o,yA.o.below HB4.o (by omega)⟩
  ·obtain rfl:e1=0:=Decidable.not_not.1 he;clear he;have q:((0:Int)==0)=true:=by decide
   have HE2:Hid (R=(⟨x.t,upd x.nd o.i N1,x.ws⟩,0)):=by show _=_;rw[lZ.o,if_neg (by decide)]
   clear lZ;go_wp2_with (first|(with_reducible refine gL ?_;first|(refine wt 30 0 rfl rfl rfl VO.o.blk ((Vb wi aT M At x.t.length ct m)) rfl underlying30 rfl ?_)));refine(mO wi aT M _ x.t m (has x.t) x.nd dX.o (by have:=HN.o;omega) w4 (HT.o.below HB4.o) (Rh.o.below HB4.o)).mono ?_;rintro e w5 ⟨m',rfl,hdm,hb5,xu⟩;have a4V:=Hd hdm;have HMG:Hid (w.heap.size<=m'):=Nat.le_trans HB4.o.size xu;have gQ:=Hd (HB4.o.trans (hb5.mono HB4.o.size));have VN:=Hd (ak.stays VO.o ((hb5).block _ VO.o.inside))
   have QK:=Hd (ak.stays wP.o ((hb5).block _ wP.o.inside));have a3f:=Hd (LQ.o.below' hb5);have uX:=Hd (og.o.below' hb5);have QH:Hid (z≠w.heap.size):=by have:=iO.o;show _≠_;omega
   clear hdm hb5 xu VO wP LQ og HB4
   go_upto_region 30 with(first|(with_reducible refine gS ?_;first|(refine ay 30 _ _ rfl rfl rfl _ 0 rfl ((Vb wi aT M At x.t.length ct m')) rfl ((Vb wi aT M At x.t.length ct m)) VN.o.blk ((Vb wi aT M At x.t.length ct m')) rfl (nE rfl) ag rfl ?_;intro w6 uM QM)))
   have sJ:Hid (bz w w6):=uM.o.below gQ.o nR;have HD6:Hid (aQ w6 (.slice At x.t.length ct) x.t):=HT.o.below sJ.o;have Yz:Hid (dO w6 m' (has x.t) (SN (has x.t) x.nd)):=a4V.o.wrote VN.o.blk (by unfold kE;simp) uM.o;have VQ:Hid (ak w6 (w.heap.size+2) Vf 30):=QK.o.stays (uM.o.far (by omega));have QL:=Hd (uM.o.blk (show w.heap.size+1≠w.heap.size by omega) a3f.o);have a4L:=Hd (uM.o.blk QH.o uX.o);have VL:=QM
   obtain⟨w7,hrun,a2i,Za⟩:=Yz.o.store (t:=x.t) (fun _=>rfl) (by have:=HN.o;omega) HO.o.i ZI.o (v:=.agg (N1.cs A7 c7).toArray) (n:=N1) ⟨A7,c7,rfl,LG.o w6 sJ.o⟩;have a4U:=Hd a2i;have a4M:Hid (az w7 w.heap.size (Vb wi aT M At x.t.length ct m')):=VL.o.stays (Za.block _ VL.o.inside fun e=>Yz.o.tY VL.o (Option.some.inj e));have a05:Hid (ak w7 (w.heap.size+2) Vf 30):=VQ.o.stays (Za.block _ VQ.o.inside fun e=>Yz.o.tY VQ.o.blk (Option.some.inj e));have HD7:Hid (aQ w7 (.slice At x.t.length ct) x.t):=HD6.o.grown Yz.o Za
   have sU:Hid (bz w w7):=sJ.o.grown Za sJ.o.size fun j e=>by cases e;exact HMG.o
   clear a2i Za VN QK a3f uX gQ uM;have c1:=QL.o.c 1 rfl;have ci:w.heap.size+1<w6.heap.size:=QL.o.inside;have s4:w6.cell? ⟨w.heap.size,4,none⟩=some (.map (some m')):=VL.o.cell 4;have si:w.heap.size<w6.heap.size:=VL.o.inside
   go_upto_region 31 with(first|(with_reducible refine gL ?_;first|(refine wt 46 0 rfl rfl rfl a4L.o (N1.cs A7 c7) rfl underlying46 rfl ?_)))
   clear hrun c1 ci s4 si;go_wp2_with (first|(with_reducible refine gL ?_;first|(refine wt 30 0 rfl rfl rfl a4M.o ((Vb wi aT M At x.t.length ct m')) rfl underlying30 rfl ?_))|(with_reducible refine gS ?_;first|(refine ay 30 _ _ rfl rfl rfl _ 0 rfl ((Vb wi aT M At x.t.length ct m')) rfl (Vf) a05.o.blk ((Vb wi aT M At x.t.length ct m')) rfl (nE rfl) ag rfl ?_;intro w8 HW8 VS)));rw[HE2.o]
   exact aS rfl rfl rfl VS.o underlying30 rfl ag ⟨_,rfl,QZ _ _ _ _ _ _ _,fun _=>⟨_,m',rfl,HD7.o.wrote a05.o (by decide) HW8.o,(a4U.o.wrote a05.o.blk (by unfold kE;simp) HW8.o).alike (fun _=>rfl) fun j hj=>by
    show upd x.nd o.i N1 j=upd (SN (has x.t) x.nd) o.i N1 j;by_cases e:j=o.i
    ·rw[e,upd_same,upd_same]
    ·rw[upd_ne _ e,upd_ne _ e]
     exact(if_pos hj).symm⟩,HW8.o.below sU.o (by omega)⟩
theorem XN(o:dM)(Ao:Option Addr)(co:Nat)(wi aT M:Int)(tv:Value)(x:aK)(m:Nat)(ok:Ok x.t)(hn:x.t.length<=900)(hg:Good x)(hfx:∀i,Fit (x.nd i))(ho:kX o)(w:World)(hr:ny w Ao o.lk.l)(ht:aQ w tv x.t)(hm:dO w m (has x.t) x.nd):Calls prog 55 #[.agg #[.int .i64 wi,.int .i64 aT,.int .i64 M,tv,.map (some m)],.agg (o.fH Ao co).toArray] w (Ba wi aT M (fG M x o) w):=by
 by_cases h1:o.k=1
 ·exact a2u o Ao co wi aT M tv x m ok hn hg hfx ho w hr ht hm h1
 by_cases h2:o.k=2
 ·exact a2t o Ao co wi aT M tv x m ok hn hg hfx ho w hr ht hm h2
 by_cases h3:o.k=3
 ·exact a2s o Ao co wi aT M tv x m ok hn hg hfx ho w hr ht hm h3
 by_cases h4:4<=o.k∧o.k<=8
 ·exact a2q o Ao co wi aT M tv x m ok hn hg hfx ho w hr ht hm h4
 exact a2r o Ao co wi aT M tv x m ok hn hg hfx ho w hr ht hm (by omega)
end
section
open Go.RowKit fD fO aF Go.Maps
def a1Y(o:Obj):Prop:=∃cs fz,o=.cells cs DW fz∧kE cs.toList
structure DR(B:Nat)(w w':World):Prop where
 bel:Below B w w'
 same:∀(k:Nat) (o:Obj),w.heap[k]?=some o->¬a1Y o->w'.heap[k]?=some o
theorem DR.refl(B:Nat)(w:World):DR B w w:=⟨bR,fun _ _ h _=>h⟩
theorem DR.trans{B:Nat}{w w1 w2:World}(h:DR B w w1)(k:DR B w1 w2):DR B w w2:=⟨h.bel.trans k.bel,fun j o h1 h2=>k.same j o (h.same j o h1 h2) h2⟩
theorem DR.below{B:Nat}{w w':World}(hb:bz w w')(hB:B<=w.heap.size):DR B w w':=⟨hb.mono hB,fun k _ h _=>(hb.block k (Array.getElem?_eq_some_iff.1 h).1).trans h⟩
theorem DR.wrote{B g:Nat}{w w':World}{cs:List Value}(hb:ak w g cs DW)(hc:kE cs)(hW:Wrote g w w')(hB:B<=g):DR B w w':=⟨hW.below bR hB,fun k o h hn=>by
 by_cases e:k=g
 ·refine absurd ⟨cs.toArray,(0,0),?_,by simpa using hc⟩ hn;rw[e]at h;exact Option.some.inj (h.symm.trans hb)
 ·exact(hW.far e).trans h⟩
theorem Aw.dr{B:Nat}{w w':World}{A:Option Addr}(h:Aw w A)(hr:DR B w w'){a:Addr}(e:A=some a):w'.heap[a.block]?=w.heap[a.block]?:=by
 obtain⟨cs,fz,h1⟩:=h a e;rw[h1];refine hr.same _ _ h1 ?_;rintro⟨cs',fz',e2,_⟩
 injection e2 with _ e3 _
 exact absurd e3 (by decide)
theorem aQ.dr{B:Nat}{w w':World}{v:Value}{t:T}(h:aQ w v t)(hr:DR B w w'):aQ w' v t:=h.stays fun _ _ _ _ hy ea=>hy.dr hr ea
theorem ny.dr{B:Nat}{w w':World}{A:Option Addr}{l:List Nat}(h:ny w A l)(hr:DR B w w'):ny w' A l:=h.stays fun a ea hne=>by
 obtain⟨cs,fz,h1⟩:=h.typ a ea hne;rw[h1];refine hr.same _ _ h1 ?_;rintro⟨cs',fz',e2,_⟩
 injection e2 with _ e3 _
 exact absurd e3 (by decide)
theorem wW.dr{B:Nat}{w w':World}{v:Value}{n:Nd}(h:wW w v n)(hr:DR B w w'):wW w' v n:=by
 obtain⟨A,c,e,h1⟩:=h;exact⟨A,c,e,h1.dr hr⟩
theorem dO.dr{B:Nat}{w w':World}{m:Nat}{H:Int->Bool}{nd:Int->Nd}(h:dO w m H nd)(hr:DR B w w'):dO w' m H nd:=by
 obtain⟨es,h1,h2,h3⟩:=h.ex;refine⟨es,h1.stays ?_,h2,fun i hi=>?_⟩
 ·obtain⟨es',clock,h4,_⟩:=h1.own;rw[h4];refine hr.same _ _ h4 ?_;rintro⟨_,_,e,_⟩;cases e
 ·obtain⟨v,e,hv⟩:=h3 i hi;exact⟨v,e,hv.dr hr⟩
theorem fE.dr{B:Nat}{w w':World}{v:Value}{a b M:Int}{x:aK}(h:fE w v a b M x)(hr:DR B w w'):fE w' v a b M x:=by
 obtain⟨tv,m,e,h1,h2⟩:=h;exact⟨tv,m,e,h1.dr hr,h2.dr hr⟩
def DP(a b M:Int)(y:aK)(e:Int)(v:Value)(w:World):Prop:=DSh v∧(e=0->fE w v a b M y)
theorem DP.dr{B:Nat}{a b M:Int}{y:aK}{e:Int}{v:Value}{w w':World}(h:DP a b M y e v w)(hr:DR B w w'):DP a b M y e v w':=⟨h.1,fun k=>(h.2 k).dr hr⟩
theorem ak.wrote{w w':World}{g:Nat}{cs cs':List Value}{T:TypeId}(h:ak w g cs T)(hW:Wrote g w w')(hB:az w' g cs'):ak w' g cs' T:=by
 obtain⟨o,l,rfl⟩:=hW
 have:∀(l:List Value) (o:Nat) {w:World} {cs:List Value},ak w g cs T->∃c2,ak (dV g w o l) g c2 T:=by
  intro l
  induction l with
  |nil=>exact fun _ _ cs h=>⟨cs,h⟩
  |cons v l ih=>exact fun o _ _ h=>ih (o+1) (h.set o v)
 obtain⟨c2,h2⟩:=this l o h;obtain⟨T',h3⟩:=hB;have e:=h2.symm.trans h3;simp only[Option.some.injEq,Obj.cells.injEq]at e;have e1:c2=cs':=by have:=congrArg Array.toList e.1;simpa using this
 rw[←e1];exact h2
structure VJ(B:Nat)(iA iS:Bool)(vA vC:Value)(w:World):Prop where
 iF:B<=w.heap.size
 ex:iA=true->∃g cs,vA=.pointer (some ⟨g,0,none⟩)∧B<=g∧ak w g cs DW∧kE cs∧cs.length=5∧(iS=true->vC=.agg cs.toArray)
section
variable {B:Nat}{iA iS:Bool}{vA vC:Value}{w w':World}
theorem VJ.start(h:B<=w.heap.size):VJ B false iS vA vC w:=⟨h,fun e=>nomatch e⟩
theorem VJ.slots{uA uC:Value}(h:VJ B iA iS vA vC w)(e1:uA=vA)(e2:uC=vC):VJ B iA iS uA uC w:=by rw[e1,e2];exact h
theorem VJ.below(h:VJ B iA iS vA vC w)(hb:bz w w'):VJ B iA iS vA vC w':=⟨Nat.le_trans h.iF hb.size,fun e=>by
 obtain⟨g,cs,h1,h2,h3,h4⟩:=h.ex e
 exact⟨g,cs,h1,h2,h3.stays (hb.block _ h3.inside),h4⟩⟩
theorem VJ.told{u uA:Value}(h:VJ B iA iS vA vC w)(eS:iS=false)(e1:uA=vA):VJ B iA iS uA u w:=⟨h.iF,fun e=>by
 obtain⟨g,cs,h1,h2,h3,h4,h5,_⟩:=h.ex e
 exact⟨g,cs,e1.trans h1,h2,h3,h4,h5,fun e=>by rw[eS]at e;cases e⟩⟩
theorem VJ.made{uA uC:Value}(h:VJ B iA iS vA vC w)(eS:iS=false)(e1:uA=.pointer (some ⟨w.heap.size,0,none⟩)):VJ B true iS uA uC (w.alloc (.cells Vf.toArray DW)):=
 ⟨Nat.le_trans h.iF (by simp),fun _=>⟨w.heap.size,_,e1,h.iF,ak.new w Vf DW,by unfold kE;simp,rfl,fun e=>by rw[eS]at e;cases e⟩⟩
theorem VJ.put{cs':List Value}{g:Nat}{cs:List Value}(h:VJ B iA iS vA vC w)(e1:vA=.pointer (some ⟨g,0,none⟩))(hg:B<=g)(hb:ak w g cs DW)(hc:kE cs)(hW:Wrote g w w')(hB:az w' g cs')(h2:kE cs')(hl:cs'.length=5)(ev:vC=.agg cs'.toArray):VJ B iA true vA vC w'∧DR B w w':=
 ⟨⟨by rw[hW.size];exact h.iF,fun _=>⟨g,cs',e1,hg,hb.wrote hW hB,h2,hl,fun _=>ev⟩⟩,DR.wrote hb hc hW hg⟩
end
def Fa(w:World)(g:Nat)(a b M:Int)(x:aK):Prop:=∃A c m,ak w g (Vb a b M A x.t.length c m) DW∧aQ w (.slice A x.t.length c) x.t∧dO w m (has x.t) x.nd
theorem Fa.below{w w':World}{g:Nat}{a b M:Int}{x:aK}(h:Fa w g a b M x)(hb:bz w w'):Fa w' g a b M x:=by
 obtain⟨A,c,m,h1,h2,h3⟩:=h;exact⟨A,c,m,h1.stays (hb.block _ h1.inside),h2.below hb,h3.below hb⟩
theorem fE.ex{w:World}{v:Value}{a b M:Int}{x:aK}(h:fE w v a b M x):∃A c m,v=.agg (Vb a b M A x.t.length c m).toArray∧aQ w (.slice A x.t.length c) x.t∧dO w m (has x.t) x.nd:=by
 obtain⟨tv,m,rfl,⟨A,c,rfl,h1⟩,h2⟩:=h;exact⟨A,c,m,rfl,⟨A,c,rfl,h1⟩,h2⟩
theorem Fa.doc{w:World}{a b M:Int}{x:aK}{A:Option Addr}{c m:Nat}(h1:aQ w (.slice A x.t.length c) x.t)(h2:dO w m (has x.t) x.nd):fE w (.agg (Vb a b M A x.t.length c m).toArray) a b M x:=⟨_,m,rfl,h1,h2⟩
theorem a0F(a b M:Int)(A:Option Addr)(n c:Nat)(m:Option Nat):kE [.int .i64 a,.int .i64 b,.int .i64 M,.slice A n c,.map m]:=by unfold kE;simp
theorem fE.a1V{w:World}{v:Value}{a b M:Int}{x y:aK}(h:fE w v a b M x)(h1:Nk y x):fE w v a b M y:=h.like h1.1 h1.2
def gK.fH(q:gK):List Value:=q.o.fH q.A q.c
theorem gK.EG(q:gK):q.fH.length=24:=rfl
structure xM(w:World)(A:Option Addr)(l:List gK):Prop where
 row:aU 24 gK.fH w A l
 px:∀q∈l,ny w q.A q.o.lk.l
theorem xM.below{w w':World}{A:Option Addr}{l:List gK}(h:xM w A l)(hb:bz w w'):xM w' A l:=⟨aU.below h.row hb,fun q hq=>(h.px q hq).below hb⟩
theorem xM.dr{B:Nat}{w w':World}{A:Option Addr}{l:List gK}(h:xM w A l)(hr:DR B w w'):xM w' A l:=by
 refine⟨fun hn=>?_,fun q hq=>(h.px q hq).dr hr⟩;obtain⟨b,off,e,hc⟩:=h.row hn;refine⟨b,off,e,fun j hj i v hv=>?_⟩;have h0:=hc 0 hn 20 (.int .u32 ((l[0]).o.lk.p:Nat)) rfl;have hlt:=World.block_lt_of_cell? w ⟨b,_,none⟩ h0;simp only at hlt;have h2:w.heap[b]?=some w.heap[b]:=Array.getElem?_eq_getElem hlt
 have h4:=hr.same _ _ h2 (by
  rintro⟨cs,fz,e2,hp⟩;unfold World.cell? at h0;rw[h2,e2]at h0;simp only at h0;have h3:cs[off+0*24+20]?=some (.int .u32 ((l[0]).o.lk.p:Nat)):=by simpa using h0
  exact hp _ (List.mem_of_getElem? (by rw[Array.getElem?_toList];exact h3)) _ rfl)
 exact(World.cell?_of_block (a:=⟨b,_,none⟩) (h4.trans h2.symm)).trans (hc j hj i v hv)
end
end Go.Proofs.YthmegninhpihkaaGreat
