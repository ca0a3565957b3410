import Derived.Test.YthmegninhpihkaaGreatWDcd
set_option maxHeartbeats 16000000
set_option maxRecDepth 100000
open Go.Proofs.Tryz
namespace Go.Proofs.YthmegninhpihkaaGreat
section
open Go.RowKit fF fO aF Go.Maps
theorem VM.uK{w:World}{m g:Nat}{es:LV}{cs:List Value}(h:VM w m es)(hb:aA w g cs):g≠m:=fun e=>by
 obtain⟨es',clock,h1,_⟩:=h.own;obtain⟨T,hT⟩:=hb;rw[e]at hT;have:=hT.symm.trans h1;cases this
theorem dQ.uK{w:World}{m g:Nat}{H:Int->Bool}{nd:Int->Nd}{cs:List Value}(h:dQ w m H nd)(hb:aA w g cs):g≠m:=by
 obtain⟨es,h1,-⟩:=h.ex;exact h1.uK hb
theorem YL{w:World}{o:dU}{Ao An:Option Addr}{n:Nd}(h1:nP w Ao o.lk.l)(h2:nP w An n.lk.l):nP w (bC o Ao An) (bY n o).lk.l:=by
 by_cases h7:o.k=7
 ·have e:(bY n o).lk=o.lk:=by unfold bY;rw[if_neg (by omega),if_neg (by omega),if_neg (by omega),if_pos h7]
  rw[e,show bC o Ao An=Ao from if_pos h7];exact h1
 ·rw[Oq h7,show bC o Ao An=An from if_neg h7];exact h2
def kU(cs:List Value):Prop:=∀c∈cs,∀z,c≠.int .u32 z
theorem xW.wrote{w w':World}{g:Nat}{cs:List Value}{v:Value}{n:Nd}(h:xW w v n)(hb:aA w g cs)(hc:kU cs)(hW:Wrote g w w'):xW w' v n:=by
 obtain⟨A,c,e,hr⟩:=h;refine⟨A,c,e,hr.stays fun a ea hne=>hW.far fun e2=>?_⟩;obtain⟨b,off,e3,hcl⟩:=hr.row (List.length_pos_iff.2 hne);rw[ea]at e3;obtain rfl:=Option.some.inj e3;have h1:=hcl 0 (List.length_pos_iff.2 hne);obtain rfl:b=g:=e2;have h2:=hb.cell (off+0);rw[h1]at h2;exact hc _ (List.mem_of_getElem? h2.symm) _ rfl
theorem dQ.wrote{w w':World}{m g:Nat}{H:Int->Bool}{nd:Int->Nd}{cs:List Value}(h:dQ w m H nd)(hb:aA w g cs)(hc:kU cs)(hW:Wrote g w w'):dQ w' m H nd:=by
 have hne:=h.uK hb;obtain⟨es,h1,h2,h3⟩:=h.ex;refine⟨es,h1.stays (hW.far (Ne.symm hne)),h2,fun i hi=>?_⟩;obtain⟨v,e,hv⟩:=h3 i hi;exact⟨v,e,hv.wrote hb hc hW⟩
theorem aQ.wrote{w w':World}{g:Nat}{v:Value}{t:T}{cs:List Value}{T:TypeId}(h:aQ w v t)(hb:au w g cs T)(hT:T≠128)(hW:Wrote g w w'):aQ w' v t:=
 h.stays fun _ _ _ _ hy ea=>hW.far (hy.dX ea hb hT)
theorem aQ.grown{w w':World}{m:Nat}{v:Value}{t:T}{H:Int->Bool}{nd:Int->Nd}(h:aQ w v t)(hm:dQ w m H nd)(hg:w.grownBy w' (some m)):aQ w' v t:=
 h.stays fun _ _ a _ hy ea=>hg.block _ (by obtain⟨cs,fz,h1⟩:=hy a ea;exact lt_of_block h1) fun e=>by
  obtain⟨cs,fz,h1⟩:=hy a ea;obtain⟨es,⟨_,⟨es',clock,h2,_⟩,_⟩,_⟩:=hm.ex;have e3:a.block=m:=by simpa using e
  rw[e3]at h1;have:=h1.symm.trans h2;cases this
theorem eX.wrote{w w':World}{v:Value}{wi aH M:Int}{x:aJ}{g:Nat}{cs:List Value}{T:TypeId}(h:eX w v wi aH M x)(hb:au w g cs T)(hT:T≠128)(hc:kU cs)(hW:Wrote g w w'):eX w' v wi aH M x:=by
 obtain⟨tv,m,e,h1,h2⟩:=h;exact⟨tv,m,e,h1.wrote hb hT hW,h2.wrote hb.blk hc hW⟩
theorem jO(w:World)(g:Nat)(hg:g=w.heap.size)(cs:List Value)(T:TypeId):au (w.alloc (.cells cs.toArray T)) g cs T:=hg ▸ au.new w cs T
theorem aQ.a2Y{w:World}{A:Option Addr}{c:Nat}{t:T}(h:aQ w (.slice A t.length c) t):nz w A t:=by
 obtain⟨A',c',e,hr,_⟩:=h
 injection e with e _ _
 rw[e];exact hr
def DSh(v:Value):Prop:=∃cs:List Value,v=.agg cs.toArray∧cs.length=5∧kU cs∧cs.all (·.oneCell')=true
theorem TI(wi aH M:Int)(A:Option Addr)(n c:Nat)(m:Option Nat):DSh (.agg #[.int .i64 wi,.int .i64 aH,.int .i64 M,.slice A n c,.map m]):=⟨[.int .i64 wi,.int .i64 aH,.int .i64 M,.slice A n c,.map m],rfl,rfl,by unfold kU;simp,rfl⟩
structure MJ(B:Nat)(old:List (Nat×List Value))(m:Nat)(H:Int->Bool)(nd GN:Int->Nd)(tv:Value)(t:T)(gr:Nat)(d:Bool)(w:World):Prop where
 old:og old w
 gX:B<=w.heap.size
 no:d=false->dQ w m H nd
 yes:d=true->dQ w m H GN
 tr:aQ w tv t
 rt:au w gr Vf EN
theorem MJ.below{B:Nat}{old:List (Nat×List Value)}{m:Nat}{H:Int->Bool}{nd GN:Int->Nd}{tv:Value}{t:T}{gr:Nat}{d:Bool}{w w':World}(h:MJ B old m H nd GN tv t gr d w)(hb:bz w w'):MJ B old m H nd GN tv t gr d w':=
 ⟨h.old.below hb,Nat.le_trans h.gX hb.size,fun e=>(h.no e).below hb,fun e=>(h.yes e).below hb,h.tr.below hb,h.rt.stays (hb.block _ h.rt.inside)⟩
theorem og.grown{w w':World}{m:Nat}{H:Int->Bool}{nd:Int->Nd}(hm:dQ w m H nd)(hg:w.grownBy w' (some m)):∀{old:List (Nat×List Value)},og old w->og old w'
 |[],_=>trivial
 |_::_,h=>⟨h.1.stays (hg.block _ h.1.inside fun e=>hm.uK h.1 (Option.some.inj e)),og.grown hm hg h.2⟩
theorem MJ.store{B:Nat}{old:List (Nat×List Value)}{m:Nat}{H:Int->Bool}{nd:Int->Nd}{tv:Value}{u t:T}{gr:Nat}{w:World}{i:Int}{n:Nd}{v:Value}(h:MJ B old m H nd (upd nd i n) tv u gr false w)(hH:∀i,H i=has t i)(hn:t.length<=100000)(hi:I64 i)(hh:H i=true)(hv:xW w v n)(hm:B<=m) :
  ∃w',(Instr.mapUpdate zV (.map (some m)) (.int .i64 i) v).run prog w=.ok () w'∧MJ B old m H nd (upd nd i n) tv u gr true w'∧Below B w w':=by
 have h0:=h.no rfl;obtain⟨w',hrun,hd,hg⟩:=h0.store hH hn hi hh hv;refine⟨w',hrun,⟨og.grown h0 hg h.old,Nat.le_trans h.gX hg.size,nofun,fun _=>hd,h.tr.grown h0 hg,h.rt.stays (hg.block _ h.rt.inside fun e=>h0.uK h.rt.blk (Option.some.inj e))⟩,bR.grown hg h.gX fun j e=>by cases e;exact hm⟩
def CO(wi aH M:Int)(r:aJ×Int)(w:World)(e:Ending)(w':World):Prop:=∃v',e=.returned (.tuple #[v',.int .i64 r.2])∧DSh v'∧(r.2=0->eX w' v' wi aH M r.1)∧bz w w'
theorem a3Q(o:dU)(Ao:Option Addr)(co:Nat)(wi aH M:Int)(tv:Value)(x:aJ)(m:Nat)(ok:Ok x.t)(hn:x.t.length<=900)(hg:Good x)(hfx:∀i,Fit (x.nd i))(ho:mW o)(w:World)(hr:nP w Ao o.lk.l)(ht:aQ w tv x.t)(hm:dQ w m (has x.t) x.nd)(h1:o.k=1):Calls prog 55 #[.agg #[.int .i64 wi,.int .i64 aH,.int .i64 M,tv,.map (some m)],.agg (o.fP Ao co).toArray] w (CO wi aH M (fQ M x o) w):=by
 obtain⟨At,ct,rfl,hrt,hy⟩:=ht
 have HT:Hid (aQ w (.slice At x.t.length ct) x.t):=⟨At,ct,rfl,hrt,hy⟩
 have TV:=Hd hm;have HR:=Hd hr;have dW:=Hd ok;have HN:=Hd hn;have HG:=Hd hg;have KI:=Hd hfx;have HO:=Hd ho;unfold CO
 obtain⟨R,hR⟩:=aB (fQ M x o)
 have HE:=Hd hR;rw[hR];clear hR hm hr hrt hy ok hn hg hfx ho;have HB0:Hid (bz w (((w.alloc (.cells (Vb wi aH M At x.t.length ct m).toArray 30)).alloc (.cells (o.fP Ao co).toArray 154)).alloc (.cells Vf.toArray 30))):=((bR.alloc nR _).alloc (by simp) _).alloc (by simp;omega) _;have jR:Hid (au (((w.alloc (.cells (Vb wi aH M At x.t.length ct m).toArray 30)).alloc (.cells (o.fP Ao co).toArray 154)).alloc (.cells Vf.toArray 30)) w.heap.size (Vb wi aH M At x.t.length ct m) 30):=((au.new w (Vb wi aH M At x.t.length ct m) 30).al _).al _
 have jS:Hid (aA (((w.alloc (.cells (Vb wi aH M At x.t.length ct m).toArray 30)).alloc (.cells (o.fP Ao co).toArray 154)).alloc (.cells Vf.toArray 30)) (w.heap.size+1) (o.fP Ao co)):=(aW (w.alloc _) _ (by simp) (o.fP Ao co) _).alloc _;have jm:Hid (au (((w.alloc (.cells (Vb wi aH M At x.t.length ct m).toArray 30)).alloc (.cells (o.fP Ao co).toArray 154)).alloc (.cells Vf.toArray 30)) (w.heap.size+2) Vf 30):=jO ((w.alloc _).alloc _) _ (by simp) Vf 30;go_enter func55,ntmps55
 go_upto_region 1 with(fail)
 generalize (((w.alloc (.cells (Vb wi aH M At x.t.length ct m).toArray 30)).alloc (.cells (o.fP Ao co).toArray 154)).alloc (.cells Vf.toArray 30))=w0 at*;have c0:=jS.o.c 0 rfl;have c1:=jS.o.c 1 rfl;have c2:=jS.o.c 2 rfl;have c3:=jS.o.c 3 rfl;have ci:w.heap.size+1<w0.heap.size:=jS.o.inside;have s3:w0.cell? ⟨w.heap.size,3,none⟩=some (.slice At x.t.length ct):=jR.o.blk.cell 3;have si:w.heap.size<w0.heap.size:=jR.o.inside;have t1:(o.k==1)=true:=by simpa using h1
 have ng:Hid (R=fE M x o.i o.p o.n):=by show _=_;rw[←HE.o];unfold fQ;rw[if_pos h1]
 clear h1 HE;go_wp2_with (fail);refine(a5L _ x.t o.i o.p o.n w0 (HT.o.below HB0.o) (by have:=HN.o;omega)).mono ?_;rintro e w1 ⟨v1,rfl,hd1,hb1⟩;have HB1:=Hd (HB0.o.trans (hb1.mono HB0.o.size));have eU:=Hd (au.stays jR.o ((hb1).block _ jR.o.inside));have jw:=Hd (au.stays jm.o ((hb1).block _ jm.o.inside));have xQ:=Hd (jS.o.below' hb1);clear hb1 jR jS jm HB0 c0 c1 c2 c3 ci s3 si
 obtain⟨⟨t1',e1⟩,hq⟩:∃q,iq x.t o.i o.p o.n=q:=⟨_,rfl⟩
 have HQ:=Hd hq;unfold fE at ng;rw[hq]at ng hd1 ⊢;simp only at ng hd1 ⊢;clear hq;obtain⟨A1,n1,rfl,hr1,hy1⟩:=hd1
 have HD1:Hid (aQ w1 (.slice A1 t1'.length n1) t1'):=⟨A1,n1,rfl,hr1,hy1⟩
 clear hr1 hy1;by_cases he:¬e1=0
 ·have q:(e1==0)=false:=by simpa using he
  have HE2:Hid (R=(x,e1)):=by show _=_;rw[ng.o,if_pos he]
  have CV:=Hd he;clear ng he;go_wp2_with (first|(with_reducible refine gL ?_;first|(refine wt 30 0 rfl rfl rfl eU.o.blk ((Vb wi aH M At x.t.length ct m)) rfl underlying30 rfl ?_))|(with_reducible refine gS ?_;first|(refine ay 30 _ _ rfl rfl rfl _ 0 rfl ((Vb wi aH M At x.t.length ct m)) rfl (Vf) jw.o.blk ((Vb wi aH M At x.t.length ct m)) rfl (nE rfl) ag rfl ?_;intro w2 HW2 dh)));rw[HE2.o]
  exact aK rfl rfl rfl dh.o underlying30 rfl ag ⟨_,rfl,TI _ _ _ _ _ _ _,fun e=>absurd e CV.o,HW2.o.below HB1.o (by omega)⟩
 ·obtain rfl:e1=0:=Decidable.not_not.1 he;clear he;have q:((0:Int)==0)=true:=by decide
  obtain⟨bk1,bk2,bk3,bk4,-,-⟩:=rU dW.o HQ.o;have zG:=Hd (JC dW.o HQ.o);have TY:Hid (∀j,has t1' j=true↔j=o.i∨has x.t j=true):=bk4;have a2a:=Hd bk1;have HTI:Hid (has t1' o.i=true):=aj.2 (.inr bk2);clear bk1 bk2 bk3 bk4;rw[if_neg (by decide)]at ng;have hxn:(x.t.length:Int)<=900:=by have:=HN.o;omega
  have s2:w1.cell? ⟨w.heap.size,2,none⟩=some (.int .i64 M):=eU.o.blk.cell 2;have s3:w1.cell? ⟨w.heap.size,3,none⟩=some (.slice At x.t.length ct):=eU.o.blk.cell 3;have si:w.heap.size<w1.heap.size:=eU.o.inside;by_cases hM:M<((x.t.length+2:Nat):Int)
  ·have q2:decide (M<=(x.t.length:Int)+1)=true:=decide_eq_true (by omega);have HE2:Hid (R=(x,36)):=by show _=_;rw[ng.o,if_pos hM]
   clear ng hM;go_wp2_with (first|(with_reducible refine gL ?_;first|(refine wt 30 0 rfl rfl rfl eU.o.blk ((Vb wi aH M At x.t.length ct m)) rfl underlying30 rfl ?_))|(with_reducible refine gS ?_;first|(refine ay 30 _ _ rfl rfl rfl _ 0 rfl ((Vb wi aH M At x.t.length ct m)) rfl (Vf) jw.o.blk ((Vb wi aH M At x.t.length ct m)) rfl (nE rfl) ag rfl ?_;intro w2 HW2 dh)));rw[HE2.o]
   exact aK rfl rfl rfl dh.o underlying30 rfl ag ⟨_,rfl,TI _ _ _ _ _ _ _,fun e=>absurd (show(36:Int)=0 from e) (by decide),HW2.o.below HB1.o (by omega)⟩
  ·have q2:decide (M<=(x.t.length:Int)+1)=false:=decide_eq_false (by omega);have HE2:Hid (R=(⟨t1',upd x.nd o.i Nd.plain,upd x.ws o.i Mp.o⟩,0)):=by show _=_;rw[ng.o,if_neg hM]
   clear ng hM;have f3:w1.frozen? ⟨w.heap.size,3,none⟩=false:=eU.o.blk.free 3
   go_upto_region 8 with(fail)
   have HS:Hid (Wrote w.heap.size w1 (w1.setCell ⟨w.heap.size,3,none⟩ (.slice A1 t1'.length n1))):=⟨3,[.slice A1 t1'.length n1],rfl⟩
   have mY:Hid (au (w1.setCell ⟨w.heap.size,3,none⟩ (.slice A1 t1'.length n1)) w.heap.size (Vb wi aH M A1 t1'.length n1 m) 30):=eU.o.set 3 _;generalize hwq:(w1.setCell ⟨w.heap.size,3,none⟩ (.slice A1 t1'.length n1))=w2 at*;clear hwq;have HB2:Hid (bz w w2):=HS.o.below HB1.o nR;have lL:Hid (au w2 (w.heap.size+2) Vf 30):=jw.o.stays (HS.o.far (by omega));have lM:=Hd (HS.o.blk (show w.heap.size+1≠w.heap.size by omega) xQ.o);have HD2:Hid (aQ w2 (.slice A1 t1'.length n1) t1'):=HD1.o.wrote eU.o (by decide) HS.o
   go_wp2_with (first|(with_reducible refine gL ?_;first|(refine wt 30 0 rfl rfl rfl mY.o.blk ((Vb wi aH M A1 t1'.length n1 m)) rfl underlying30 rfl ?_)));refine(nM wi aH M _ t1' m (has x.t) x.nd a2a.o (by have:=zG.o;have:=HN.o;omega) w2 HD2.o (TV.o.below HB2.o)).mono ?_;rintro e w3 ⟨m',rfl,hdm,hbq,yu⟩;have a0g:=Hd hdm;have a4v:Hid (w.heap.size<=m'):=Nat.le_trans HB2.o.size yu;have HD3:=Hd (HD2.o.below hbq);have HB3:=Hd (HB2.o.trans (hbq.mono HB2.o.size));have xO:=Hd (au.stays mY.o ((hbq).block _ mY.o.inside))
   have tY:=Hd (au.stays lL.o ((hbq).block _ lL.o.inside));have J6:=Hd (lM.o.below' hbq);clear hdm hbq yu s2 s3 si f3 mY lL lM HD2 HB2 HS eU jw xQ HD1 HB1;have HMM:Hid (w.heap.size+2≠m'):=a0g.o.uK tY.o.blk
   go_upto_region 9 with(first|(with_reducible refine gS ?_;first|(refine ay 30 _ _ rfl rfl rfl _ 0 rfl ((Vb wi aH M A1 t1'.length n1 m')) rfl ((Vb wi aH M A1 t1'.length n1 m)) xO.o.blk ((Vb wi aH M A1 t1'.length n1 m')) rfl (nE rfl) ag rfl ?_;intro w4 yF nT)))
   have HD4:Hid (aQ w4 (.slice A1 t1'.length n1) t1'):=HD3.o.wrote xO.o (by decide) yF.o;have a6A:Hid (dQ w4 m' (has t1') (UY (has x.t) x.nd)):=a0g.o.wrote xO.o.blk (by unfold kU;simp) yF.o;have HB4:Hid (bz w w4):=yF.o.below HB3.o nR;have xP:Hid (au w4 (w.heap.size+2) Vf 30):=tY.o.stays (yF.o.far (by omega));have NU:=Hd (yF.o.blk (show w.heap.size+1≠w.heap.size by omega) J6.o)
   have Cm:Hid (MJ w.heap.size [(w.heap.size,(Vb wi aH M A1 t1'.length n1 m')),(w.heap.size+1,o.fP Ao co),(w.heap.size+2,Vf)] m' (has t1') (UY (has x.t) x.nd) (upd (UY (has x.t) x.nd) o.i Nd.plain) (.slice A1 t1'.length n1) t1' (w.heap.size+2) false w4):=⟨⟨nT.o,NU.o,xP.o.blk,trivial⟩,HB4.o.size,fun _=>a6A.o,nofun,HD4.o,xP.o⟩
   have HMG:Hid (w.heap.size<=m'):=a4v.o;have HMI:Hid (t1'.length<=100000):=by have:=zG.o;have:=HN.o;show _<=_;omega
   refine wR (Below w.heap.size) (fun L wx=>MJ w.heap.size [(w.heap.size,(Vb wi aH M A1 t1'.length n1 m')),(w.heap.size+1,o.fP Ao co),(w.heap.size+2,Vf)] m' (has t1') (UY (has x.t) x.nd) (upd (UY (has x.t) x.nd) o.i Nd.plain) (.slice A1 t1'.length n1) t1' (w.heap.size+2) (L 5) wx) [46,47,48,49,50] (fun _=>bR) (fun _ _ _ h k=>h.trans k) (fun i=>match i with
    |0=>rp w.heap.size 4
    |1=>rV (.map (some m'))
    |2=>rp (w.heap.size+1) 1
    |3=>rV (.int .i64 o.i)
    |4=>rV (.agg (Nd.plain.cs none 0).toArray)
    |_=>ra) (bR.drew) (Cm.o.below bR.drew) ⟨?_,?_,?_,?_,?_,?_,trivial⟩ ?_
   any_goals (first|refine zp fun L a w1 hh=>?_|fail)
   have h2:=hh.p 2 w.heap.size 0;have i0:=(hh.st.old.1).inside;rotate_left;have h46:=rq (hh.d 0 46);have ⟨c0,i0⟩:=(hh.st.old.1).ci 4 rfl;rotate_left;have h3:=hh.p 3 ((w.heap.size+1)) 0;have i0:=(hh.st.old.2.1).inside;rotate_left;have h48:=rq (hh.d 2 48);have ⟨c0,i0⟩:=(hh.st.old.2.1).ci 1 rfl;rotate_left
   ·have hC:=Hd (Bz w1);have hJ:=hh.j;clear hh;go_simp;refine hC.o.mono ?_;rintro e w9 ⟨rfl,aY⟩;exact⟨_,rfl,aY.mono hJ.o.gX,rfl,hJ.o.below aY⟩
   ·have h47:=rq (hh.d 1 47);have h49:=rq (hh.d 3 49);have h50:=rq (hh.d 4 50);have hj:=hh.st;rw[hh.un]at hj;obtain⟨w9,hrun,hj9,aY⟩:=hj.store (n:=Nd.plain) (fun _=>rfl) HMI.o HO.o.i HTI.o ⟨none,0,rfl,nP.none_ rfl⟩ HMG.o;unfold Nd.v at hrun;have hJ9:=Hd hj9;have fJ:=Hd aY;clear hh hj hj9 aY;go_simp;exact⟨fJ.o,⟨undef,trivial⟩,hJ9.o⟩
   any_goals (have hJ:=hh.j;clear hh;go_simp;exact⟨_,rfl,bR,rfl,hJ.o⟩)
   intro L w5 val hL hJ hR hv;have kL:=Hd hR;have hj5:=hJ;rw[hL 5 (by decide)]at hj5;have HJ5:=Hd hj5;clear hv hL hJ hR hj5;simp only[regs.aG,List.map_cons,List.map_nil];simp only[Act.put,List.setIfInBounds_toArray,List.set_cons_zero,List.set_cons_succ]
   skip
   have X0:=Hd HJ5.o.old.1;have S9:=Hd HJ5.o.old.2.2.1;have gV:Hid (bz w w5):=HB4.o.trans kL.o;have a6r:Hid (au w5 (w.heap.size+2) Vf 30):=HJ5.o.rt
   have HDC:Hid (eX w5 (.agg (Vb wi aH M A1 t1'.length n1 m').toArray) wi aH M ⟨t1',upd x.nd o.i Nd.plain,upd x.ws o.i Mp.o⟩):=⟨_,m',rfl,HJ5.o.tr,(HJ5.o.yes rfl).alike (fun _=>rfl) fun j hj=>by
    show upd x.nd o.i Nd.plain j=upd (UY (has x.t) x.nd) o.i Nd.plain j;by_cases e:j=o.i
    ·rw[e,upd_same,upd_same]
    ·rw[upd_ne _ e,upd_ne _ e]
     exact(if_pos (((TY.o j).1 hj).resolve_left e)).symm⟩
   go_wp2_with (first|(with_reducible refine gL ?_;first|(refine wt 30 0 rfl rfl rfl X0.o ((Vb wi aH M A1 t1'.length n1 m')) rfl underlying30 rfl ?_))|(with_reducible refine gS ?_;first|(refine ay 30 _ _ rfl rfl rfl _ 0 rfl ((Vb wi aH M A1 t1'.length n1 m')) rfl (Vf) S9.o ((Vb wi aH M A1 t1'.length n1 m')) rfl (nE rfl) ag rfl ?_;intro w6 sG EH)));rw[HE2.o]
   exact aK rfl rfl rfl EH.o underlying30 rfl ag ⟨_,rfl,TI _ _ _ _ _ _ _,fun _=>HDC.o.wrote a6r.o (by decide) (by unfold kU;simp) sG.o,sG.o.below gV.o (by omega)⟩
theorem a3P(o:dU)(Ao:Option Addr)(co:Nat)(wi aH M:Int)(tv:Value)(x:aJ)(m:Nat)(ok:Ok x.t)(hn:x.t.length<=900)(hg:Good x)(hfx:∀i,Fit (x.nd i))(ho:mW o)(w:World)(hr:nP w Ao o.lk.l)(ht:aQ w tv x.t)(hm:dQ w m (has x.t) x.nd)(h2:o.k=2):Calls prog 55 #[.agg #[.int .i64 wi,.int .i64 aH,.int .i64 M,tv,.map (some m)],.agg (o.fP Ao co).toArray] w (CO wi aH M (fQ M x o) w):=by
 have h1:¬o.k=1:=by omega
 obtain⟨At,ct,rfl,hrt,hy⟩:=ht
 have HT:Hid (aQ w (.slice At x.t.length ct) x.t):=⟨At,ct,rfl,hrt,hy⟩
 have TV:=Hd hm;have HR:=Hd hr;have dW:=Hd ok;have HN:=Hd hn;have HG:=Hd hg;have KI:=Hd hfx;have HO:=Hd ho;unfold CO
 obtain⟨R,hR⟩:=aB (fQ M x o)
 have HE:=Hd hR;rw[hR];clear hR hm hr hrt hy ok hn hg hfx ho;have HB0:Hid (bz w (((w.alloc (.cells (Vb wi aH M At x.t.length ct m).toArray 30)).alloc (.cells (o.fP Ao co).toArray 154)).alloc (.cells Vf.toArray 30))):=((bR.alloc nR _).alloc (by simp) _).alloc (by simp;omega) _;have jR:Hid (au (((w.alloc (.cells (Vb wi aH M At x.t.length ct m).toArray 30)).alloc (.cells (o.fP Ao co).toArray 154)).alloc (.cells Vf.toArray 30)) w.heap.size (Vb wi aH M At x.t.length ct m) 30):=((au.new w (Vb wi aH M At x.t.length ct m) 30).al _).al _
 have jS:Hid (aA (((w.alloc (.cells (Vb wi aH M At x.t.length ct m).toArray 30)).alloc (.cells (o.fP Ao co).toArray 154)).alloc (.cells Vf.toArray 30)) (w.heap.size+1) (o.fP Ao co)):=(aW (w.alloc _) _ (by simp) (o.fP Ao co) _).alloc _;have jm:Hid (au (((w.alloc (.cells (Vb wi aH M At x.t.length ct m).toArray 30)).alloc (.cells (o.fP Ao co).toArray 154)).alloc (.cells Vf.toArray 30)) (w.heap.size+2) Vf 30):=jO ((w.alloc _).alloc _) _ (by simp) Vf 30;go_enter func55,ntmps55
 go_upto_region 1 with(fail)
 generalize (((w.alloc (.cells (Vb wi aH M At x.t.length ct m).toArray 30)).alloc (.cells (o.fP Ao co).toArray 154)).alloc (.cells Vf.toArray 30))=w0 at*;have c0:=jS.o.c 0 rfl;have c1:=jS.o.c 1 rfl;have ci:w.heap.size+1<w0.heap.size:=jS.o.inside;have s3:w0.cell? ⟨w.heap.size,3,none⟩=some (.slice At x.t.length ct):=jR.o.blk.cell 3;have si:w.heap.size<w0.heap.size:=jR.o.inside;have t1:(o.k==1)=false:=by simpa using h1
 have t2:(o.k==2)=true:=by simpa using h2
 have ng:Hid (R=fV x o.i):=by show _=_;rw[←HE.o];unfold fQ;rw[if_neg h1,if_pos h2]
 clear h1 h2 HE;go_wp2_with (fail);refine(a5K _ x.t o.i w0 dW.o (HT.o.below HB0.o) (by have:=HN.o;omega)).mono ?_;rintro e w1 ⟨v1,u1,rfl,hd1,-,hb1⟩;have HB1:=Hd (HB0.o.trans (hb1.mono HB0.o.size));have eU:=Hd (au.stays jR.o ((hb1).block _ jR.o.inside));have jw:=Hd (au.stays jm.o ((hb1).block _ jm.o.inside));have xQ:=Hd (jS.o.below' hb1);clear hb1 jR jS jm HB0 c0 c1 ci s3 si;have HRO:=Hd (uw dW.o o.i)
 obtain⟨⟨t1',k1,e1⟩,hq⟩:∃q,jJ x.t o.i=q:=⟨_,rfl⟩
 have HQ:=Hd hq;unfold fV at ng;rw[hq]at ng HRO hd1 ⊢;simp only at ng HRO hd1 ⊢;clear hq;obtain⟨A1,n1,rfl,hr1,hy1⟩:=hd1
 have HD1:Hid (aQ w1 (.slice A1 t1'.length n1) t1'):=⟨A1,n1,rfl,hr1,hy1⟩
 clear hr1 hy1;by_cases he:¬e1=0
 ·have q:(e1==0)=false:=by simpa using he
  have HE2:Hid (R=(x,e1)):=by show _=_;rw[ng.o,if_pos he]
  have CV:=Hd he;clear ng he;go_wp2_with (first|(with_reducible refine gL ?_;first|(refine wt 30 0 rfl rfl rfl eU.o.blk ((Vb wi aH M At x.t.length ct m)) rfl underlying30 rfl ?_))|(with_reducible refine gS ?_;first|(refine ay 30 _ _ rfl rfl rfl _ 0 rfl ((Vb wi aH M At x.t.length ct m)) rfl (Vf) jw.o.blk ((Vb wi aH M At x.t.length ct m)) rfl (nE rfl) ag rfl ?_;intro w2 HW2 dh)));rw[HE2.o]
  exact aK rfl rfl rfl dh.o underlying30 rfl ag ⟨_,rfl,TI _ _ _ _ _ _ _,fun e=>absurd e CV.o,HW2.o.below HB1.o (by omega)⟩
 ·obtain rfl:e1=0:=Decidable.not_not.1 he;clear he;have q:((0:Int)==0)=true:=by decide
  have HE2:Hid (R=(⟨t1',x.nd,x.ws⟩,0)):=by show _=_;rw[ng.o,if_neg (by decide)]
  have a2a:Hid (Ok t1'):=HRO.o.1;have zG:Hid (t1'.length<=x.t.length):=HRO.o.2
  have TY:Hid (∀j,has t1' j=true->has x.t j=true):=fun j hj=>by
   obtain⟨y1,y2⟩:=Aa (t:=x.t) (i:=o.i) (by rw[HQ.o]);rw[HQ.o]at y2
   injection y2 with y2 _
   rw[y2]at hj;exact((AZ dW.o y1).1 hj).2
  clear ng HRO;have s3:w1.cell? ⟨w.heap.size,3,none⟩=some (.slice At x.t.length ct):=eU.o.blk.cell 3;have si:w.heap.size<w1.heap.size:=eU.o.inside;have f3:w1.frozen? ⟨w.heap.size,3,none⟩=false:=eU.o.blk.free 3
  go_upto_region 16 with(fail)
  have HS:Hid (Wrote w.heap.size w1 (w1.setCell ⟨w.heap.size,3,none⟩ (.slice A1 t1'.length n1))):=⟨3,[.slice A1 t1'.length n1],rfl⟩
  have mY:Hid (au (w1.setCell ⟨w.heap.size,3,none⟩ (.slice A1 t1'.length n1)) w.heap.size (Vb wi aH M A1 t1'.length n1 m) 30):=eU.o.set 3 _;generalize hwq:(w1.setCell ⟨w.heap.size,3,none⟩ (.slice A1 t1'.length n1))=w2 at*;clear hwq;have HB2:Hid (bz w w2):=HS.o.below HB1.o nR;have lL:Hid (au w2 (w.heap.size+2) Vf 30):=jw.o.stays (HS.o.far (by omega));have lM:=Hd (HS.o.blk (show w.heap.size+1≠w.heap.size by omega) xQ.o);have HD2:Hid (aQ w2 (.slice A1 t1'.length n1) t1'):=HD1.o.wrote eU.o (by decide) HS.o
  go_wp2_with (first|(with_reducible refine gL ?_;first|(refine wt 30 0 rfl rfl rfl mY.o.blk ((Vb wi aH M A1 t1'.length n1 m)) rfl underlying30 rfl ?_)));refine(nM wi aH M _ t1' m (has x.t) x.nd a2a.o (by have:=zG.o;have:=HN.o;omega) w2 HD2.o (TV.o.below HB2.o)).mono ?_;rintro e w3 ⟨m',rfl,hdm,hbq,yu⟩;have a0g:=Hd hdm;have a4v:Hid (w.heap.size<=m'):=Nat.le_trans HB2.o.size yu;have HD3:=Hd (HD2.o.below hbq);have HB3:=Hd (HB2.o.trans (hbq.mono HB2.o.size));have xO:=Hd (au.stays mY.o ((hbq).block _ mY.o.inside))
  have tY:=Hd (au.stays lL.o ((hbq).block _ lL.o.inside));have J6:=Hd (lM.o.below' hbq);clear hdm hbq s3 si f3 yu mY lL lM HD2 HB2 HS eU jw xQ HD1 HB1;go_wp2_with (first|(with_reducible refine gS ?_;first|(refine ay 30 _ _ rfl rfl rfl _ 0 rfl ((Vb wi aH M A1 t1'.length n1 m')) rfl (Vf) tY.o.blk ((Vb wi aH M A1 t1'.length n1 m')) rfl (nE rfl) ag rfl ?_;intro w4 yF nT)));rw[HE2.o]
  exact aK rfl rfl rfl nT.o underlying30 rfl ag ⟨_,rfl,TI _ _ _ _ _ _ _,fun _=>⟨_,m',rfl,HD3.o.wrote tY.o (by decide) yF.o,(a0g.o.wrote tY.o.blk (by unfold kU;simp) yF.o).alike (fun _=>rfl) fun j hj=>(if_pos (TY.o j hj)).symm⟩,yF.o.below HB3.o (by omega)⟩
theorem a3O(o:dU)(Ao:Option Addr)(co:Nat)(wi aH M:Int)(tv:Value)(x:aJ)(m:Nat)(ok:Ok x.t)(hn:x.t.length<=900)(hg:Good x)(hfx:∀i,Fit (x.nd i))(ho:mW o)(w:World)(hr:nP w Ao o.lk.l)(ht:aQ w tv x.t)(hm:dQ w m (has x.t) x.nd)(h3:o.k=3):Calls prog 55 #[.agg #[.int .i64 wi,.int .i64 aH,.int .i64 M,tv,.map (some m)],.agg (o.fP Ao co).toArray] w (CO wi aH M (fQ M x o) w):=by
 have h1:¬o.k=1:=by omega
 have h2:¬o.k=2:=by omega
 obtain⟨At,ct,rfl,hrt,hy⟩:=ht
 have HT:Hid (aQ w (.slice At x.t.length ct) x.t):=⟨At,ct,rfl,hrt,hy⟩
 have TV:=Hd hm;have HR:=Hd hr;have dW:=Hd ok;have HN:=Hd hn;have HG:=Hd hg;have KI:=Hd hfx;have HO:=Hd ho;unfold CO
 obtain⟨R,hR⟩:=aB (fQ M x o)
 have HE:=Hd hR;rw[hR];clear hR hm hr hrt hy ok hn hg hfx ho;have HB0:Hid (bz w (((w.alloc (.cells (Vb wi aH M At x.t.length ct m).toArray 30)).alloc (.cells (o.fP Ao co).toArray 154)).alloc (.cells Vf.toArray 30))):=((bR.alloc nR _).alloc (by simp) _).alloc (by simp;omega) _;have jR:Hid (au (((w.alloc (.cells (Vb wi aH M At x.t.length ct m).toArray 30)).alloc (.cells (o.fP Ao co).toArray 154)).alloc (.cells Vf.toArray 30)) w.heap.size (Vb wi aH M At x.t.length ct m) 30):=((au.new w (Vb wi aH M At x.t.length ct m) 30).al _).al _
 have jS:Hid (aA (((w.alloc (.cells (Vb wi aH M At x.t.length ct m).toArray 30)).alloc (.cells (o.fP Ao co).toArray 154)).alloc (.cells Vf.toArray 30)) (w.heap.size+1) (o.fP Ao co)):=(aW (w.alloc _) _ (by simp) (o.fP Ao co) _).alloc _;have jm:Hid (au (((w.alloc (.cells (Vb wi aH M At x.t.length ct m).toArray 30)).alloc (.cells (o.fP Ao co).toArray 154)).alloc (.cells Vf.toArray 30)) (w.heap.size+2) Vf 30):=jO ((w.alloc _).alloc _) _ (by simp) Vf 30;go_enter func55,ntmps55
 go_upto_region 1 with(fail)
 generalize (((w.alloc (.cells (Vb wi aH M At x.t.length ct m).toArray 30)).alloc (.cells (o.fP Ao co).toArray 154)).alloc (.cells Vf.toArray 30))=w0 at*;have c0:=jS.o.c 0 rfl;have c1:=jS.o.c 1 rfl;have c2:=jS.o.c 2 rfl;have c3:=jS.o.c 3 rfl;have ci:w.heap.size+1<w0.heap.size:=jS.o.inside;have s3:w0.cell? ⟨w.heap.size,3,none⟩=some (.slice At x.t.length ct):=jR.o.blk.cell 3;have si:w.heap.size<w0.heap.size:=jR.o.inside;have t1:(o.k==1)=false:=by simpa using h1
 have t2:(o.k==2)=false:=by simpa using h2
 have t3:(o.k==3)=true:=by simpa using h3
 have ng:Hid (R=mg x o.i o.p o.n):=by show _=_;rw[←HE.o];unfold fQ;rw[if_neg h1,if_neg h2,if_pos h3]
 clear h1 h2 h3 HE;go_wp2_with (fail);refine(a3L _ x.t o.i o.p o.n w0 dW.o (HT.o.below HB0.o) (by have:=HN.o;omega)).mono ?_;rintro e w1 ⟨v1,rfl,hd1,hb1⟩;have HB1:=Hd (HB0.o.trans (hb1.mono HB0.o.size));have eU:=Hd (au.stays jR.o ((hb1).block _ jR.o.inside));have jw:=Hd (au.stays jm.o ((hb1).block _ jm.o.inside));have xQ:=Hd (jS.o.below' hb1);clear hb1 jR jS jm HB0 c0 c1 c2 c3 ci s3 si
 obtain⟨⟨t1',e1⟩,hq⟩:∃q,ku x.t o.i o.p o.n=q:=⟨_,rfl⟩
 have HQ:=Hd hq;unfold mg at ng;rw[hq]at ng hd1 ⊢;simp only at ng hd1 ⊢;clear hq;obtain⟨A1,n1,rfl,hr1,hy1⟩:=hd1
 have HD1:Hid (aQ w1 (.slice A1 t1'.length n1) t1'):=⟨A1,n1,rfl,hr1,hy1⟩
 clear hr1 hy1
 have HR2:Hid (R.2=e1∧(e1=0->R.1=⟨t1',x.nd,x.ws⟩)):=by
  by_cases he:e1=0
  ·subst he;rw[show R=_ from ng.o,if_neg (by decide)];exact⟨rfl,fun _=>rfl⟩
  ·rw[show R=_ from ng.o,if_pos he];exact⟨rfl,fun e=>absurd e he⟩
 have TY:Hid (e1=0->∀j,has t1' j=has x.t j):=fun he j=>by
  subst he;obtain⟨y1,y2,-⟩:=Ar (t:=x.t) (i:=o.i) (p:=o.p) (n:=o.n) (by rw[HQ.o]);rw[HQ.o]at y1;simp only at y1;rw[Bool.eq_iff_iff,aj,aj,y1,iP y2]
 clear ng;have s3:w1.cell? ⟨w.heap.size,3,none⟩=some (.slice At x.t.length ct):=eU.o.blk.cell 3;have si:w.heap.size<w1.heap.size:=eU.o.inside;have f3:w1.frozen? ⟨w.heap.size,3,none⟩=false:=eU.o.blk.free 3
 go_upto_region 20 with(fail)
 have HS:Hid (Wrote w.heap.size w1 (w1.setCell ⟨w.heap.size,3,none⟩ (.slice A1 t1'.length n1))):=⟨3,[.slice A1 t1'.length n1],rfl⟩
 have mY:Hid (au (w1.setCell ⟨w.heap.size,3,none⟩ (.slice A1 t1'.length n1)) w.heap.size (Vb wi aH M A1 t1'.length n1 m) 30):=eU.o.set 3 _;generalize hwq:(w1.setCell ⟨w.heap.size,3,none⟩ (.slice A1 t1'.length n1))=w2 at*;clear hwq;have HB2:Hid (bz w w2):=HS.o.below HB1.o nR;have lL:Hid (au w2 (w.heap.size+2) Vf 30):=jw.o.stays (HS.o.far (by omega));have lM:=Hd (HS.o.blk (show w.heap.size+1≠w.heap.size by omega) xQ.o);have HD2:Hid (aQ w2 (.slice A1 t1'.length n1) t1'):=HD1.o.wrote eU.o (by decide) HS.o;clear s3 si f3
 go_wp2_with (first|(with_reducible refine gL ?_;first|(refine wt 30 0 rfl rfl rfl mY.o.blk ((Vb wi aH M A1 t1'.length n1 m)) rfl underlying30 rfl ?_))|(with_reducible refine gS ?_;first|(refine ay 30 _ _ rfl rfl rfl _ 0 rfl ((Vb wi aH M A1 t1'.length n1 m)) rfl (Vf) lL.o.blk ((Vb wi aH M A1 t1'.length n1 m)) rfl (nE rfl) ag rfl ?_;intro w4 yF nT)));rw[HR2.o.1];refine aK rfl rfl rfl nT.o underlying30 rfl ag ⟨_,rfl,TI _ _ _ _ _ _ _,fun e=>?_,yF.o.below HB2.o (by omega)⟩;rw[HR2.o.2 e]
 exact⟨_,m,rfl,HD2.o.wrote lL.o (by decide) yF.o,(TV.o.below (yF.o.below HB2.o (by omega))).alike (TY.o e) fun _ _=>rfl⟩
theorem a3N(o:dU)(Ao:Option Addr)(co:Nat)(wi aH M:Int)(tv:Value)(x:aJ)(m:Nat)(ok:Ok x.t)(hn:x.t.length<=900)(hg:Good x)(hfx:∀i,Fit (x.nd i))(ho:mW o)(w:World)(hr:nP w Ao o.lk.l)(ht:aQ w tv x.t)(hm:dQ w m (has x.t) x.nd)(h9:¬(1<=o.k∧o.k<=8)):Calls prog 55 #[.agg #[.int .i64 wi,.int .i64 aH,.int .i64 M,tv,.map (some m)],.agg (o.fP Ao co).toArray] w (CO wi aH M (fQ M x o) w):=by
 have h1:¬o.k=1:=by omega
 have h2:¬o.k=2:=by omega
 have h3:¬o.k=3:=by omega
 obtain⟨At,ct,rfl,hrt,hy⟩:=ht
 have HT:Hid (aQ w (.slice At x.t.length ct) x.t):=⟨At,ct,rfl,hrt,hy⟩
 have TV:=Hd hm;have HR:=Hd hr;have dW:=Hd ok;have HN:=Hd hn;have HG:=Hd hg;have KI:=Hd hfx;have HO:=Hd ho;unfold CO
 obtain⟨R,hR⟩:=aB (fQ M x o)
 have HE:=Hd hR;rw[hR];clear hR hm hr hrt hy ok hn hg hfx ho;have HB0:Hid (bz w (((w.alloc (.cells (Vb wi aH M At x.t.length ct m).toArray 30)).alloc (.cells (o.fP Ao co).toArray 154)).alloc (.cells Vf.toArray 30))):=((bR.alloc nR _).alloc (by simp) _).alloc (by simp;omega) _;have jR:Hid (au (((w.alloc (.cells (Vb wi aH M At x.t.length ct m).toArray 30)).alloc (.cells (o.fP Ao co).toArray 154)).alloc (.cells Vf.toArray 30)) w.heap.size (Vb wi aH M At x.t.length ct m) 30):=((au.new w (Vb wi aH M At x.t.length ct m) 30).al _).al _
 have jS:Hid (aA (((w.alloc (.cells (Vb wi aH M At x.t.length ct m).toArray 30)).alloc (.cells (o.fP Ao co).toArray 154)).alloc (.cells Vf.toArray 30)) (w.heap.size+1) (o.fP Ao co)):=(aW (w.alloc _) _ (by simp) (o.fP Ao co) _).alloc _;have jm:Hid (au (((w.alloc (.cells (Vb wi aH M At x.t.length ct m).toArray 30)).alloc (.cells (o.fP Ao co).toArray 154)).alloc (.cells Vf.toArray 30)) (w.heap.size+2) Vf 30):=jO ((w.alloc _).alloc _) _ (by simp) Vf 30;go_enter func55,ntmps55
 go_upto_region 1 with(fail)
 generalize (((w.alloc (.cells (Vb wi aH M At x.t.length ct m).toArray 30)).alloc (.cells (o.fP Ao co).toArray 154)).alloc (.cells Vf.toArray 30))=w0 at*;have c0:=jS.o.c 0 rfl;have ci:w.heap.size+1<w0.heap.size:=jS.o.inside;have t1:(o.k==1)=false:=by simpa using h1
 have t2:(o.k==2)=false:=by simpa using h2
 have t3:(o.k==3)=false:=by simpa using h3
 have HE2:Hid (R=(x,38)):=by show _=_;rw[←HE.o];unfold fQ;rw[if_neg h1,if_neg h2,if_neg h3,if_neg (by omega)]
 clear h1 h2 h3 HE;by_cases hl:o.k<1
 ·have q1:decide (o.k<1)=true:=decide_eq_true hl;clear hl h9;go_wp2_with (first|(with_reducible refine gL ?_;first|(refine wt 30 0 rfl rfl rfl jR.o.blk ((Vb wi aH M At x.t.length ct m)) rfl underlying30 rfl ?_))|(with_reducible refine gS ?_;first|(refine ay 30 _ _ rfl rfl rfl _ 0 rfl ((Vb wi aH M At x.t.length ct m)) rfl (Vf) jm.o.blk ((Vb wi aH M At x.t.length ct m)) rfl (nE rfl) ag rfl ?_;intro w2 HW2 dh)));rw[HE2.o]
  exact aK rfl rfl rfl dh.o underlying30 rfl ag ⟨_,rfl,TI _ _ _ _ _ _ _,fun e=>absurd (show(38:Int)=0 from e) (by decide),HW2.o.below HB0.o (by omega)⟩
 ·have q1:decide (o.k<1)=false:=decide_eq_false hl;have q2:decide ((8:Int)<o.k)=true:=decide_eq_true (by omega);clear hl h9;go_wp2_with (first|(with_reducible refine gL ?_;first|(refine wt 30 0 rfl rfl rfl jR.o.blk ((Vb wi aH M At x.t.length ct m)) rfl underlying30 rfl ?_))|(with_reducible refine gS ?_;first|(refine ay 30 _ _ rfl rfl rfl _ 0 rfl ((Vb wi aH M At x.t.length ct m)) rfl (Vf) jm.o.blk ((Vb wi aH M At x.t.length ct m)) rfl (nE rfl) ag rfl ?_;intro w2 HW2 dh)));rw[HE2.o]
  exact aK rfl rfl rfl dh.o underlying30 rfl ag ⟨_,rfl,TI _ _ _ _ _ _ _,fun e=>absurd (show(38:Int)=0 from e) (by decide),HW2.o.below HB0.o (by omega)⟩
theorem a3M(o:dU)(Ao:Option Addr)(co:Nat)(wi aH M:Int)(tv:Value)(x:aJ)(m:Nat)(ok:Ok x.t)(hn:x.t.length<=900)(hg:Good x)(hfx:∀i,Fit (x.nd i))(ho:mW o)(w:World)(hr:nP w Ao o.lk.l)(ht:aQ w tv x.t)(hm:dQ w m (has x.t) x.nd)(h4:4<=o.k∧o.k<=8):Calls prog 55 #[.agg #[.int .i64 wi,.int .i64 aH,.int .i64 M,tv,.map (some m)],.agg (o.fP Ao co).toArray] w (CO wi aH M (fQ M x o) w):=by
 have h1:¬o.k=1:=by omega
 have h2:¬o.k=2:=by omega
 have h3:¬o.k=3:=by omega
 obtain⟨At,ct,rfl,hrt,hy⟩:=ht
 have HT:Hid (aQ w (.slice At x.t.length ct) x.t):=⟨At,ct,rfl,hrt,hy⟩
 have TV:=Hd hm;have HR:=Hd hr;have dW:=Hd ok;have HN:=Hd hn;have HG:=Hd hg;have KI:=Hd hfx;have HO:=Hd ho;unfold CO
 obtain⟨R,hR⟩:=aB (fQ M x o)
 have HE:=Hd hR;rw[hR];clear hR hm hr hrt hy ok hn hg hfx ho;have HB0:Hid (bz w (((w.alloc (.cells (Vb wi aH M At x.t.length ct m).toArray 30)).alloc (.cells (o.fP Ao co).toArray 154)).alloc (.cells Vf.toArray 30))):=((bR.alloc nR _).alloc (by simp) _).alloc (by simp;omega) _;have jR:Hid (au (((w.alloc (.cells (Vb wi aH M At x.t.length ct m).toArray 30)).alloc (.cells (o.fP Ao co).toArray 154)).alloc (.cells Vf.toArray 30)) w.heap.size (Vb wi aH M At x.t.length ct m) 30):=((au.new w (Vb wi aH M At x.t.length ct m) 30).al _).al _
 have jS:Hid (aA (((w.alloc (.cells (Vb wi aH M At x.t.length ct m).toArray 30)).alloc (.cells (o.fP Ao co).toArray 154)).alloc (.cells Vf.toArray 30)) (w.heap.size+1) (o.fP Ao co)):=(aW (w.alloc _) _ (by simp) (o.fP Ao co) _).alloc _;have jm:Hid (au (((w.alloc (.cells (Vb wi aH M At x.t.length ct m).toArray 30)).alloc (.cells (o.fP Ao co).toArray 154)).alloc (.cells Vf.toArray 30)) (w.heap.size+2) Vf 30):=jO ((w.alloc _).alloc _) _ (by simp) Vf 30;go_enter func55,ntmps55
 go_upto_region 1 with(fail)
 generalize (((w.alloc (.cells (Vb wi aH M At x.t.length ct m).toArray 30)).alloc (.cells (o.fP Ao co).toArray 154)).alloc (.cells Vf.toArray 30))=w0 at*;have c0:=jS.o.c 0 rfl;have c1:=jS.o.c 1 rfl;have ci:w.heap.size+1<w0.heap.size:=jS.o.inside;have s3:w0.cell? ⟨w.heap.size,3,none⟩=some (.slice At x.t.length ct):=jR.o.blk.cell 3;have s4:w0.cell? ⟨w.heap.size,4,none⟩=some (.map (some m)):=jR.o.blk.cell 4;have si:w.heap.size<w0.heap.size:=jR.o.inside;have t1:(o.k==1)=false:=by simpa using h1
 have t2:(o.k==2)=false:=by simpa using h2
 have t3:(o.k==3)=false:=by simpa using h3
 have ng:Hid (R=ny x o):=by show _=_;rw[←HE.o];unfold fQ;rw[if_neg h1,if_neg h2,if_neg h3,if_pos h4]
 have q1:decide (o.k<1)=false:=decide_eq_false (by omega);have q2:decide ((8:Int)<o.k)=false:=decide_eq_false (by omega);clear h1 h2 h3 h4 HE;go_wp2_with (fail);refine(WA At x.t ct o.i w0 (aQ.a2Y (HT.o.below HB0.o)) (by have:=HN.o;omega)).mono ?_;rintro e w1 ⟨rfl,hb1⟩;have HB1:=Hd (HB0.o.trans (hb1.mono HB0.o.size));have eU:=Hd (au.stays jR.o ((hb1).block _ jR.o.inside));have jw:=Hd (au.stays jm.o ((hb1).block _ jm.o.inside));have xQ:=Hd (jS.o.below' hb1);clear hb1 jR jS jm HB0 c0 c1 ci s3 s4 si q1 q2;unfold ny at ng
 cases hh:has x.t o.i with
 |false=>
  have HE2:Hid (R=(x,30)):=by show _=_;rw[ng.o,if_pos hh]
  clear ng;go_wp2_with (first|(with_reducible refine gL ?_;first|(refine wt 30 0 rfl rfl rfl eU.o.blk ((Vb wi aH M At x.t.length ct m)) rfl underlying30 rfl ?_))|(with_reducible refine gS ?_;first|(refine ay 30 _ _ rfl rfl rfl _ 0 rfl ((Vb wi aH M At x.t.length ct m)) rfl (Vf) jw.o.blk ((Vb wi aH M At x.t.length ct m)) rfl (nE rfl) ag rfl ?_;intro w2 HW2 dh)));rw[HE2.o]
  exact aK rfl rfl rfl dh.o underlying30 rfl ag ⟨_,rfl,TI _ _ _ _ _ _ _,fun e=>absurd (show(30:Int)=0 from e) (by decide),HW2.o.below HB1.o (by omega)⟩
 |true=>
  have HHH:Hid (has x.t o.i=true):=hh;rw[if_neg (by rw[hh];decide)]at ng;clear hh;obtain⟨An,cn,hrn,hlk⟩:=TV.o.look HO.o.i HHH.o;have XY:=Hd hlk;have ZK:=Hd hrn;have a5B:=hlk w1 HB1.o;clear hlk hrn;have c1:=xQ.o.c 1 rfl;have ci:w.heap.size+1<w1.heap.size:=xQ.o.inside;have s4:w1.cell? ⟨w.heap.size,4,none⟩=some (.map (some m)):=eU.o.blk.cell 4;have si:w.heap.size<w1.heap.size:=eU.o.inside;go_wp2_with (first|(with_reducible refine gL ?_;first|(refine wt 154 0 rfl rfl rfl xQ.o (o.fP Ao co) rfl underlying154 rfl ?_)))
  refine(Wq o Ao co (x.nd o.i) An cn w1).mono ?_;rintro e w2 ⟨rfl,hb2⟩;have HB2:=Hd (HB1.o.trans (hb2.mono HB1.o.size));have mY:=Hd (au.stays eU.o ((hb2).block _ eU.o.inside));have lL:=Hd (au.stays jw.o ((hb2).block _ jw.o.inside));have lM:=Hd (xQ.o.below' hb2);clear hb2 a5B eU xQ jw c1 ci s4 si;have KF:Hid ((bY (x.nd o.i) o).chk=(bY Nd.plain o).chk):=Pm (HG.o o.i) o;have YB:Hid (Fit (bY (x.nd o.i) o)):=uG ⟨HO.o.fit.p,HO.o.fit.l,HO.o.fit.len⟩ (KI.o o.i)
  have NI:Hid (∀W,bz w W->nP W (bC o Ao An) (bY (x.nd o.i) o).lk.l):=fun W hb=>YL (HR.o.below hb) (ZK.o.below hb)
  obtain⟨A7,hA7⟩:∃q,bC o Ao An=q:=⟨_,rfl⟩
  obtain⟨c7,hc7⟩:∃q,bC o co cn=q:=⟨_,rfl⟩
  rw[hA7]at NI;rw[hA7,hc7];clear hA7 hc7
  obtain⟨N1,hN1⟩:=aB (bY (x.nd o.i) o)
  rw[hN1]at KF YB NI ng ⊢;clear hN1;rw[←KF.o]at ng;have HZ:Hid (aA (w2.alloc (.cells Va.toArray 46)) w2.heap.size Va):=az w2 Va _;have jV:Hid (Below w2.heap.size w2 (w2.alloc (.cells Va.toArray 46))):=bR.alloc nR _
  go_upto_region 26 with(first|(with_reducible refine gS ?_;first|(refine ay 46 _ _ rfl rfl rfl _ 0 rfl (N1.cs A7 c7) rfl (Va) HZ.o (N1.cs A7 c7) rfl (nE rfl) ag (Nd.one _ _ _) ?_;intro w3 HW3 dO)))
  obtain⟨z,hz⟩:=aB w2.heap.size
  have iQ:Hid (w.heap.size+2<z):=by rw[←hz];exact lL.o.inside
  rw[hz]at HW3 dO HZ jV ⊢;have HB3:Hid (bz w w3):=HW3.o.below (HB2.o.trans (jV.o.mono (by have:=iQ.o;omega))) (by have:=iQ.o;omega);have xO:Hid (au w3 w.heap.size (Vb wi aH M At x.t.length ct m) 30):=(mY.o.stays (jV.o.block _ (by have:=iQ.o;omega))).stays (HW3.o.far (by have:=iQ.o;omega));have tY:Hid (au w3 (w.heap.size+2) Vf 30):=(lL.o.stays (jV.o.block _ (by have:=iQ.o;omega))).stays (HW3.o.far (by have:=iQ.o;omega))
  have J6:Hid (aA w3 (w.heap.size+1) (o.fP Ao co)):=HW3.o.blk (show w.heap.size+1≠z by have:=iQ.o;omega) (lM.o.below (jV.o) (by have:=iQ.o;omega));clear mY lL lM HB2 HZ jV HW3 hz;go_wp2_with (first|(with_reducible refine gL ?_;first|(refine wt 46 0 rfl rfl rfl dO.o (N1.cs A7 c7) rfl underlying46 rfl ?_)));refine(Rx N1.m N1.op N1.hi N1.cl N1.r N1.lk.k N1.lk.W N1.lk.H N1.lk.p N1.lk.iw N1.lk.ih A7 N1.lk.l c7 YB.o.p YB.o.l (by have:=YB.o.len;unfold maxLen;omega) w3 (NI.o w3 HB3.o).row).mono ?_;rintro e w4 ⟨rfl,hb4⟩
  rw[show Lu N1.m N1.op N1.cl N1.r (y8 N1.lk.k N1.lk.W N1.lk.H N1.lk.p N1.lk.iw N1.lk.ih N1.lk.l)=N1.chk from rfl];have HB4:=Hd (HB3.o.trans (hb4.mono HB3.o.size));have X3:=Hd (au.stays xO.o ((hb4).block _ xO.o.inside));have xP:=Hd (au.stays tY.o ((hb4).block _ tY.o.inside));have NU:=Hd (J6.o.below' hb4);have nT:=Hd (dO.o.below' hb4);clear hb4 xO tY J6 dO HB3
  obtain⟨e1,he1⟩:=aB N1.chk
  rw[he1]at ng ⊢;clear he1;by_cases he:¬e1=0
  ·have q:(e1==0)=false:=by simpa using he
   have HE2:Hid (R=(x,e1)):=by show _=_;rw[ng.o,if_pos he]
   have CV:=Hd he;clear ng he;go_wp2_with (first|(with_reducible refine gL ?_;first|(refine wt 30 0 rfl rfl rfl X3.o.blk ((Vb wi aH M At x.t.length ct m)) rfl underlying30 rfl ?_))|(with_reducible refine gS ?_;first|(refine ay 30 _ _ rfl rfl rfl _ 0 rfl ((Vb wi aH M At x.t.length ct m)) rfl (Vf) xP.o.blk ((Vb wi aH M At x.t.length ct m)) rfl (nE rfl) ag rfl ?_;intro w5 vM vW)));rw[HE2.o]
   exact aK rfl rfl rfl vW.o underlying30 rfl ag ⟨_,rfl,TI _ _ _ _ _ _ _,fun e=>absurd e CV.o,vM.o.below HB4.o (by omega)⟩
  ·obtain rfl:e1=0:=Decidable.not_not.1 he;clear he;have q:((0:Int)==0)=true:=by decide
   have HE2:Hid (R=(⟨x.t,upd x.nd o.i N1,x.ws⟩,0)):=by show _=_;rw[ng.o,if_neg (by decide)]
   clear ng;go_wp2_with (first|(with_reducible refine gL ?_;first|(refine wt 30 0 rfl rfl rfl X3.o.blk ((Vb wi aH M At x.t.length ct m)) rfl underlying30 rfl ?_)));refine(nM wi aH M _ x.t m (has x.t) x.nd dW.o (by have:=HN.o;omega) w4 (HT.o.below HB4.o) (TV.o.below HB4.o)).mono ?_;rintro e w5 ⟨m',rfl,hdm,hb5,yu⟩;have a6z:=Hd hdm;have HMG:Hid (w.heap.size<=m'):=Nat.le_trans HB4.o.size yu;have gV:=Hd (HB4.o.trans (hb5.mono HB4.o.size));have X0:=Hd (au.stays X3.o ((hb5).block _ X3.o.inside))
   have S9:=Hd (au.stays xP.o ((hb5).block _ xP.o.inside));have a4B:=Hd (NU.o.below' hb5);have vW:=Hd (nT.o.below' hb5);have SX:Hid (z≠w.heap.size):=by have:=iQ.o;show _≠_;omega
   clear hdm hb5 yu X3 xP NU nT HB4
   go_upto_region 30 with(first|(with_reducible refine gS ?_;first|(refine ay 30 _ _ rfl rfl rfl _ 0 rfl ((Vb wi aH M At x.t.length ct m')) rfl ((Vb wi aH M At x.t.length ct m)) X0.o.blk ((Vb wi aH M At x.t.length ct m')) rfl (nE rfl) ag rfl ?_;intro w6 sG EH)))
   have ou:Hid (bz w w6):=sG.o.below gV.o nR;have HD6:Hid (aQ w6 (.slice At x.t.length ct) x.t):=HT.o.below ou.o;have a0f:Hid (dQ w6 m' (has x.t) (UY (has x.t) x.nd)):=a6z.o.wrote X0.o.blk (by unfold kU;simp) sG.o;have X5:Hid (au w6 (w.heap.size+2) Vf 30):=S9.o.stays (sG.o.far (by omega));have Td:=Hd (sG.o.blk (show w.heap.size+1≠w.heap.size by omega) a4B.o);have a6o:=Hd (sG.o.blk SX.o vW.o);have XZ:=EH
   obtain⟨w7,hrun,a3E,hg7⟩:=a0f.o.store (t:=x.t) (fun _=>rfl) (by have:=HN.o;omega) HO.o.i HHH.o (v:=.agg (N1.cs A7 c7).toArray) (n:=N1) ⟨A7,c7,rfl,NI.o w6 ou.o⟩;have a6y:=Hd a3E;have a6p:Hid (aA w7 w.heap.size (Vb wi aH M At x.t.length ct m')):=XZ.o.stays (hg7.block _ XZ.o.inside fun e=>a0f.o.uK XZ.o (Option.some.inj e));have a2j:Hid (au w7 (w.heap.size+2) Vf 30):=X5.o.stays (hg7.block _ X5.o.inside fun e=>a0f.o.uK X5.o.blk (Option.some.inj e));have HD7:Hid (aQ w7 (.slice At x.t.length ct) x.t):=HD6.o.grown a0f.o hg7
   have sN:Hid (bz w w7):=ou.o.grown hg7 ou.o.size fun j e=>by cases e;exact HMG.o
   clear a3E hg7 X0 S9 a4B vW gV sG;have c1:=Td.o.c 1 rfl;have ci:w.heap.size+1<w6.heap.size:=Td.o.inside;have s4:w6.cell? ⟨w.heap.size,4,none⟩=some (.map (some m')):=XZ.o.cell 4;have si:w.heap.size<w6.heap.size:=XZ.o.inside
   go_upto_region 31 with(first|(with_reducible refine gL ?_;first|(refine wt 46 0 rfl rfl rfl a6o.o (N1.cs A7 c7) rfl underlying46 rfl ?_)))
   clear hrun c1 ci s4 si;go_wp2_with (first|(with_reducible refine gL ?_;first|(refine wt 30 0 rfl rfl rfl a6p.o ((Vb wi aH M At x.t.length ct m')) rfl underlying30 rfl ?_))|(with_reducible refine gS ?_;first|(refine ay 30 _ _ rfl rfl rfl _ 0 rfl ((Vb wi aH M At x.t.length ct m')) rfl (Vf) a2j.o.blk ((Vb wi aH M At x.t.length ct m')) rfl (nE rfl) ag rfl ?_;intro w8 HW8 X9)));rw[HE2.o]
   exact aK rfl rfl rfl X9.o underlying30 rfl ag ⟨_,rfl,TI _ _ _ _ _ _ _,fun _=>⟨_,m',rfl,HD7.o.wrote a2j.o (by decide) HW8.o,(a6y.o.wrote a2j.o.blk (by unfold kU;simp) HW8.o).alike (fun _=>rfl) fun j hj=>by
    show upd x.nd o.i N1 j=upd (UY (has x.t) x.nd) o.i N1 j;by_cases e:j=o.i
    ·rw[e,upd_same,upd_same]
    ·rw[upd_ne _ e,upd_ne _ e]
     exact(if_pos hj).symm⟩,HW8.o.below sN.o (by omega)⟩
theorem Zq(o:dU)(Ao:Option Addr)(co:Nat)(wi aH M:Int)(tv:Value)(x:aJ)(m:Nat)(ok:Ok x.t)(hn:x.t.length<=900)(hg:Good x)(hfx:∀i,Fit (x.nd i))(ho:mW o)(w:World)(hr:nP w Ao o.lk.l)(ht:aQ w tv x.t)(hm:dQ w m (has x.t) x.nd):Calls prog 55 #[.agg #[.int .i64 wi,.int .i64 aH,.int .i64 M,tv,.map (some m)],.agg (o.fP Ao co).toArray] w (CO wi aH M (fQ M x o) w):=by
 by_cases h1:o.k=1
 ·exact a3Q o Ao co wi aH M tv x m ok hn hg hfx ho w hr ht hm h1
 by_cases h2:o.k=2
 ·exact a3P o Ao co wi aH M tv x m ok hn hg hfx ho w hr ht hm h2
 by_cases h3:o.k=3
 ·exact a3O o Ao co wi aH M tv x m ok hn hg hfx ho w hr ht hm h3
 by_cases h4:4<=o.k∧o.k<=8
 ·exact a3M o Ao co wi aH M tv x m ok hn hg hfx ho w hr ht hm h4
 exact a3N o Ao co wi aH M tv x m ok hn hg hfx ho w hr ht hm (by omega)
end
section
open Go.RowKit fF fO aF Go.Maps
def a3n(o:Obj):Prop:=∃cs fz,o=.cells cs EN fz∧kU cs.toList
structure DR(B:Nat)(w w':World):Prop where
 bel:Below B w w'
 same:∀(k:Nat) (o:Obj),w.heap[k]?=some o->¬a3n o->w'.heap[k]?=some o
theorem DR.refl(B:Nat)(w:World):DR B w w:=⟨bR,fun _ _ h _=>h⟩
theorem DR.trans{B:Nat}{w w1 w2:World}(h:DR B w w1)(k:DR B w1 w2):DR B w w2:=⟨h.bel.trans k.bel,fun j o h1 h2=>k.same j o (h.same j o h1 h2) h2⟩
theorem DR.below{B:Nat}{w w':World}(hb:bz w w')(hB:B<=w.heap.size):DR B w w':=⟨hb.mono hB,fun k _ h _=>(hb.block k (Array.getElem?_eq_some_iff.1 h).1).trans h⟩
theorem DR.wrote{B g:Nat}{w w':World}{cs:List Value}(hb:au w g cs EN)(hc:kU cs)(hW:Wrote g w w')(hB:B<=g):DR B w w':=⟨hW.below bR hB,fun k o h hn=>by
 by_cases e:k=g
 ·refine absurd ⟨cs.toArray,(0,0),?_,by simpa using hc⟩ hn;rw[e]at h;exact Option.some.inj (h.symm.trans hb)
 ·exact(hW.far e).trans h⟩
theorem BV.dr{B:Nat}{w w':World}{A:Option Addr}(h:BV w A)(hr:DR B w w'){a:Addr}(e:A=some a):w'.heap[a.block]?=w.heap[a.block]?:=by
 obtain⟨cs,fz,h1⟩:=h a e;rw[h1];refine hr.same _ _ h1 ?_;rintro⟨cs',fz',e2,_⟩
 injection e2 with _ e3 _
 exact absurd e3 (by decide)
theorem aQ.dr{B:Nat}{w w':World}{v:Value}{t:T}(h:aQ w v t)(hr:DR B w w'):aQ w' v t:=h.stays fun _ _ _ _ hy ea=>hy.dr hr ea
theorem nP.dr{B:Nat}{w w':World}{A:Option Addr}{l:List Nat}(h:nP w A l)(hr:DR B w w'):nP w' A l:=h.stays fun a ea hne=>by
 obtain⟨cs,fz,h1⟩:=h.typ a ea hne;rw[h1];refine hr.same _ _ h1 ?_;rintro⟨cs',fz',e2,_⟩
 injection e2 with _ e3 _
 exact absurd e3 (by decide)
theorem xW.dr{B:Nat}{w w':World}{v:Value}{n:Nd}(h:xW w v n)(hr:DR B w w'):xW w' v n:=by
 obtain⟨A,c,e,h1⟩:=h;exact⟨A,c,e,h1.dr hr⟩
theorem dQ.dr{B:Nat}{w w':World}{m:Nat}{H:Int->Bool}{nd:Int->Nd}(h:dQ w m H nd)(hr:DR B w w'):dQ w' m H nd:=by
 obtain⟨es,h1,h2,h3⟩:=h.ex;refine⟨es,h1.stays ?_,h2,fun i hi=>?_⟩
 ·obtain⟨es',clock,h4,_⟩:=h1.own;rw[h4];refine hr.same _ _ h4 ?_;rintro⟨_,_,e,_⟩;cases e
 ·obtain⟨v,e,hv⟩:=h3 i hi;exact⟨v,e,hv.dr hr⟩
theorem eX.dr{B:Nat}{w w':World}{v:Value}{a b M:Int}{x:aJ}(h:eX w v a b M x)(hr:DR B w w'):eX w' v a b M x:=by
 obtain⟨tv,m,e,h1,h2⟩:=h;exact⟨tv,m,e,h1.dr hr,h2.dr hr⟩
def DP(a b M:Int)(y:aJ)(e:Int)(v:Value)(w:World):Prop:=DSh v∧(e=0->eX w v a b M y)
theorem DP.dr{B:Nat}{a b M:Int}{y:aJ}{e:Int}{v:Value}{w w':World}(h:DP a b M y e v w)(hr:DR B w w'):DP a b M y e v w':=⟨h.1,fun k=>(h.2 k).dr hr⟩
theorem au.wrote{w w':World}{g:Nat}{cs cs':List Value}{T:TypeId}(h:au w g cs T)(hW:Wrote g w w')(hB:aA w' g cs'):au w' g cs' T:=by
 obtain⟨o,l,rfl⟩:=hW
 have:∀(l:List Value) (o:Nat) {w:World} {cs:List Value},au w g cs T->∃c2,au (eG g w o l) g c2 T:=by
  intro l
  induction l with
  |nil=>exact fun _ _ cs h=>⟨cs,h⟩
  |cons v l ih=>exact fun o _ _ h=>ih (o+1) (h.set o v)
 obtain⟨c2,h2⟩:=this l o h;obtain⟨T',h3⟩:=hB;have e:=h2.symm.trans h3;simp only[Option.some.injEq,Obj.cells.injEq]at e;have e1:c2=cs':=by have:=congrArg Array.toList e.1;simpa using this
 rw[←e1];exact h2
structure VJ(B:Nat)(iA iS:Bool)(vA vC:Value)(w:World):Prop where
 gX:B<=w.heap.size
 ex:iA=true->∃g cs,vA=.pointer (some ⟨g,0,none⟩)∧B<=g∧au w g cs EN∧kU cs∧cs.length=5∧(iS=true->vC=.agg cs.toArray)
section
variable {B:Nat}{iA iS:Bool}{vA vC:Value}{w w':World}
theorem VJ.start(h:B<=w.heap.size):VJ B false iS vA vC w:=⟨h,fun e=>nomatch e⟩
theorem VJ.slots{uA uC:Value}(h:VJ B iA iS vA vC w)(e1:uA=vA)(e2:uC=vC):VJ B iA iS uA uC w:=by rw[e1,e2];exact h
theorem VJ.below(h:VJ B iA iS vA vC w)(hb:bz w w'):VJ B iA iS vA vC w':=⟨Nat.le_trans h.gX hb.size,fun e=>by
 obtain⟨g,cs,h1,h2,h3,h4⟩:=h.ex e
 exact⟨g,cs,h1,h2,h3.stays (hb.block _ h3.inside),h4⟩⟩
theorem VJ.told{u uA:Value}(h:VJ B iA iS vA vC w)(eS:iS=false)(e1:uA=vA):VJ B iA iS uA u w:=⟨h.gX,fun e=>by
 obtain⟨g,cs,h1,h2,h3,h4,h5,_⟩:=h.ex e
 exact⟨g,cs,e1.trans h1,h2,h3,h4,h5,fun e=>by rw[eS]at e;cases e⟩⟩
theorem VJ.made{uA uC:Value}(h:VJ B iA iS vA vC w)(eS:iS=false)(e1:uA=.pointer (some ⟨w.heap.size,0,none⟩)):VJ B true iS uA uC (w.alloc (.cells Vf.toArray EN)):=
 ⟨Nat.le_trans h.gX (by simp),fun _=>⟨w.heap.size,_,e1,h.gX,au.new w Vf EN,by unfold kU;simp,rfl,fun e=>by rw[eS]at e;cases e⟩⟩
theorem VJ.put{cs':List Value}{g:Nat}{cs:List Value}(h:VJ B iA iS vA vC w)(e1:vA=.pointer (some ⟨g,0,none⟩))(hg:B<=g)(hb:au w g cs EN)(hc:kU cs)(hW:Wrote g w w')(hB:aA w' g cs')(h2:kU cs')(hl:cs'.length=5)(ev:vC=.agg cs'.toArray):VJ B iA true vA vC w'∧DR B w w':=
 ⟨⟨by rw[hW.size];exact h.gX,fun _=>⟨g,cs',e1,hg,hb.wrote hW hB,h2,hl,fun _=>ev⟩⟩,DR.wrote hb hc hW hg⟩
end
def GH(w:World)(g:Nat)(a b M:Int)(x:aJ):Prop:=∃A c m,au w g (Vb a b M A x.t.length c m) EN∧aQ w (.slice A x.t.length c) x.t∧dQ w m (has x.t) x.nd
theorem GH.below{w w':World}{g:Nat}{a b M:Int}{x:aJ}(h:GH w g a b M x)(hb:bz w w'):GH w' g a b M x:=by
 obtain⟨A,c,m,h1,h2,h3⟩:=h;exact⟨A,c,m,h1.stays (hb.block _ h1.inside),h2.below hb,h3.below hb⟩
theorem eX.ex{w:World}{v:Value}{a b M:Int}{x:aJ}(h:eX w v a b M x):∃A c m,v=.agg (Vb a b M A x.t.length c m).toArray∧aQ w (.slice A x.t.length c) x.t∧dQ w m (has x.t) x.nd:=by
 obtain⟨tv,m,rfl,⟨A,c,rfl,h1⟩,h2⟩:=h;exact⟨A,c,m,rfl,⟨A,c,rfl,h1⟩,h2⟩
theorem GH.doc{w:World}{a b M:Int}{x:aJ}{A:Option Addr}{c m:Nat}(h1:aQ w (.slice A x.t.length c) x.t)(h2:dQ w m (has x.t) x.nd):eX w (.agg (Vb a b M A x.t.length c m).toArray) a b M x:=⟨_,m,rfl,h1,h2⟩
theorem a1H(a b M:Int)(A:Option Addr)(n c:Nat)(m:Option Nat):kU [.int .i64 a,.int .i64 b,.int .i64 M,.slice A n c,.map m]:=by unfold kU;simp
theorem eX.a3k{w:World}{v:Value}{a b M:Int}{x y:aJ}(h:eX w v a b M x)(h1:OO y x):eX w v a b M y:=h.like h1.1 h1.2
def iZ.fP(q:iZ):List Value:=q.o.fP q.A q.c
theorem iZ.F7(q:iZ):q.fP.length=24:=rfl
structure yK(w:World)(A:Option Addr)(l:List iZ):Prop where
 row:aU 24 iZ.fP w A l
 px:∀q∈l,nP w q.A q.o.lk.l
theorem yK.below{w w':World}{A:Option Addr}{l:List iZ}(h:yK w A l)(hb:bz w w'):yK w' A l:=⟨aU.below h.row hb,fun q hq=>(h.px q hq).below hb⟩
theorem yK.dr{B:Nat}{w w':World}{A:Option Addr}{l:List iZ}(h:yK w A l)(hr:DR B w w'):yK w' A l:=by
 refine⟨fun hn=>?_,fun q hq=>(h.px q hq).dr hr⟩;obtain⟨b,off,e,hc⟩:=h.row hn;refine⟨b,off,e,fun j hj i v hv=>?_⟩;have h0:=hc 0 hn 20 (.int .u32 ((l[0]).o.lk.p:Nat)) rfl;have hlt:=World.block_lt_of_cell? w ⟨b,_,none⟩ h0;simp only at hlt;have h2:w.heap[b]?=some w.heap[b]:=Array.getElem?_eq_getElem hlt
 have h4:=hr.same _ _ h2 (by
  rintro⟨cs,fz,e2,hp⟩;unfold World.cell? at h0;rw[h2,e2]at h0;simp only at h0;have h3:cs[off+0*24+20]?=some (.int .u32 ((l[0]).o.lk.p:Nat)):=by simpa using h0
  exact hp _ (List.mem_of_getElem? (by rw[Array.getElem?_toList];exact h3)) _ rfl)
 exact(World.cell?_of_block (a:=⟨b,_,none⟩) (h4.trans h2.symm)).trans (hc j hj i v hv)
end
end Go.Proofs.YthmegninhpihkaaGreat
