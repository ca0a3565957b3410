import Derived.Test.YtekdoeilpheklaaGreatZDcd
set_option maxHeartbeats 16000000
set_option maxRecDepth 100000
open Go.Proofs.Tryz
namespace Go.Proofs.YtekdoeilpheklaaGreat
section
open Go.RowKit fK fZ aB Go.Maps
theorem VM.uj{w:World}{m g:Nat}{es:LV}{cs:List Value}(h:VM w m es)(hb:ax w g cs):g≠m:=fun e=>by
 obtain⟨es',clock,h1,_⟩:=h.own;obtain⟨T,hT⟩:=hb;rw[e] at hT;have:=hT.symm.trans h1;cases this
theorem dL.uj{w:World}{m g:Nat}{H:Int->Bool}{nd:Int->Nd}{cs:List Value}(h:dL w m H nd)(hb:ax w g cs):g≠m:=by
 obtain⟨es,h1,-⟩:=h.ex;exact h1.uj hb
theorem Yf{w:World}{o:dJ}{Ao An:Option Addr}{n:Nd}(h1:ng w Ao o.lk.l)(h2:ng w An n.lk.l):ng w (aV o Ao An) (bJ n o).lk.l:=by
 by_cases h7:o.k=7
 ·have e:(bJ n o).lk=o.lk:=by unfold bJ;rw[if_neg (by omega),if_neg (by omega),if_neg (by omega),if_pos h7]
  rw[e,show aV o Ao An=Ao from if_pos h7];exact h1
 ·rw[NF h7,show aV o Ao An=An from if_neg h7];exact h2
def kG(cs:List Value):Prop:=∀c∈cs,∀z,c≠.int .u32 z
theorem xA.wrote{w w':World}{g:Nat}{cs:List Value}{v:Value}{n:Nd}(h:xA w v n)(hb:ax w g cs)(hc:kG cs)(hW:Wrote g w w'):xA w' v n:=by
 obtain⟨A,c,e,hr⟩:=h;refine⟨A,c,e,hr.stays fun a ea hne=>hW.far fun e2=>?_⟩;obtain⟨b,off,e3,hcl⟩:=hr.row (List.length_pos_iff.2 hne);rw[ea] at e3;obtain rfl:=Option.some.inj e3;have h1:=hcl 0 (List.length_pos_iff.2 hne);obtain rfl:b=g:=e2;have h2:=hb.cell (off+0);rw[h1] at h2;exact hc _ (List.mem_of_getElem? h2.symm) _ rfl
theorem dL.wrote{w w':World}{m g:Nat}{H:Int->Bool}{nd:Int->Nd}{cs:List Value}(h:dL w m H nd)(hb:ax w g cs)(hc:kG cs)(hW:Wrote g w w'):dL w' m H nd:=by
 have hne:=h.uj hb;obtain⟨es,h1,h2,h3⟩:=h.ex;refine⟨es,h1.stays (hW.far (Ne.symm hne)),h2,fun i hi=>?_⟩;obtain⟨v,e,hv⟩:=h3 i hi;exact⟨v,e,hv.wrote hb hc hW⟩
theorem aK.wrote{w w':World}{g:Nat}{v:Value}{t:T}{cs:List Value}{T:TypeId}(h:aK w v t)(hb:ak w g cs T)(hT:T≠213)(hW:Wrote g w w'):aK w' v t:=
 h.stays fun _ _ _ _ hy ea=>hW.far (hy.dP ea hb hT)
theorem aK.grown{w w':World}{m:Nat}{v:Value}{t:T}{H:Int->Bool}{nd:Int->Nd}(h:aK w v t)(hm:dL w m H nd)(hg:w.grownBy w' (some m)):aK w' v t:=
 h.stays fun _ _ a _ hy ea=>hg.block _ (by obtain⟨cs,fz,h1⟩:=hy a ea;exact lt_of_block h1) fun e=>by
  obtain⟨cs,fz,h1⟩:=hy a ea;obtain⟨es,⟨_,⟨es',clock,h2,_⟩,_⟩,_⟩:=hm.ex;have e3:a.block=m:=by simpa using e
  rw[e3] at h1;have:=h1.symm.trans h2;cases this
theorem eF.wrote{w w':World}{v:Value}{wi aF M:Int}{x:aJ}{g:Nat}{cs:List Value}{T:TypeId}(h:eF w v wi aF M x)(hb:ak w g cs T)(hT:T≠213)(hc:kG cs)(hW:Wrote g w w'):eF w' v wi aF M x:=by
 obtain⟨tv,m,e,h1,h2⟩:=h;exact⟨tv,m,e,h1.wrote hb hT hW,h2.wrote hb.blk hc hW⟩
theorem mY(w:World)(g:Nat)(hg:g=w.heap.size)(cs:List Value)(T:TypeId):ak (w.alloc (.cells cs.toArray T)) g cs T:=hg ▸ ak.new w cs T
theorem aK.a2w{w:World}{A:Option Addr}{c:Nat}{t:T}(h:aK w (.slice A t.length c) t):l7 w A t:=by
 obtain⟨A',c',e,hr,_⟩:=h
 injection e with e _ _
 rw[e];exact hr
def DSh(v:Value):Prop:=∃cs:List Value,v=.agg cs.toArray∧cs.length=5∧kG cs∧cs.all (·.oneCell')=true
theorem SC(wi aF M:Int)(A:Option Addr)(n c:Nat)(m:Option Nat):DSh (.agg #[.int .i64 wi,.int .i64 aF,.int .i64 M,.slice A n c,.map m]):=⟨[.int .i64 wi,.int .i64 aF,.int .i64 M,.slice A n c,.map m],rfl,rfl,by unfold kG;simp,rfl⟩
structure MJ(B:Nat)(old:List (Nat×List Value))(m:Nat)(H:Int->Bool)(nd F5:Int->Nd)(tv:Value)(t:T)(gr:Nat)(d:Bool)(w:World):Prop where
 old:mg old w
 iy:B<=w.heap.size
 no:d=false->dL w m H nd
 yes:d=true->dL w m H F5
 tr:aK w tv t
 rt:ak w gr Vf Ea
theorem MJ.below{B:Nat}{old:List (Nat×List Value)}{m:Nat}{H:Int->Bool}{nd F5:Int->Nd}{tv:Value}{t:T}{gr:Nat}{d:Bool}{w w':World}(h:MJ B old m H nd F5 tv t gr d w)(hb:bz w w'):MJ B old m H nd F5 tv t gr d w':=
 ⟨h.old.below hb,Nat.le_trans h.iy hb.size,fun e=>(h.no e).below hb,fun e=>(h.yes e).below hb,h.tr.below hb,h.rt.stays (hb.block _ h.rt.inside)⟩
theorem mg.grown{w w':World}{m:Nat}{H:Int->Bool}{nd:Int->Nd}(hm:dL w m H nd)(hg:w.grownBy w' (some m)):∀{old:List (Nat×List Value)},mg old w->mg old w'
 | [],_=>trivial
 | _::_,h=>⟨h.1.stays (hg.block _ h.1.inside fun e=>hm.uj h.1 (Option.some.inj e)),mg.grown hm hg h.2⟩
theorem MJ.store{B:Nat}{old:List (Nat×List Value)}{m:Nat}{H:Int->Bool}{nd:Int->Nd}{tv:Value}{u t:T}{gr:Nat}{w:World}{i:Int}{n:Nd}{v:Value}(h:MJ B old m H nd (upd nd i n) tv u gr false w)(hH:∀i,H i=has t i)(hn:t.length<=100000)(hi:I64 i)(hh:H i=true)(hv:xA w v n)(hm:B<=m) :
  ∃w',(Instr.mapUpdate zo (.map (some m)) (.int .i64 i) v).run prog w=.ok () w'∧MJ B old m H nd (upd nd i n) tv u gr true w'∧Below B w w':=by
 have h0:=h.no rfl;obtain⟨w',hrun,hd,hg⟩:=h0.store hH hn hi hh hv;refine⟨w',hrun,⟨mg.grown h0 hg h.old,Nat.le_trans h.iy hg.size,nofun,fun _=>hd,h.tr.grown h0 hg,h.rt.stays (hg.block _ h.rt.inside fun e=>h0.uj h.rt.blk (Option.some.inj e))⟩,bR.grown hg h.iy fun j e=>by cases e;exact hm⟩
def BC(wi aF M:Int)(r:aJ×Int)(w:World)(e:Ending)(w':World):Prop:=∃v',e=.returned (.tuple #[v',.int .i64 r.2])∧DSh v'∧(r.2=0->eF w' v' wi aF M r.1)∧bz w w'
theorem a3q(o:dJ)(Ao:Option Addr)(co:Nat)(wi aF M:Int)(tv:Value)(x:aJ)(m:Nat)(ok:Ok x.t)(hn:x.t.length<=900)(hg:Good x)(hfx:∀i,Fit (x.nd i))(ho:lV o)(w:World)(hr:ng w Ao o.lk.l)(ht:aK w tv x.t)(hm:dL w m (has x.t) x.nd)(h1:o.k=1):Calls prog 59 #[.agg #[.int .i64 wi,.int .i64 aF,.int .i64 M,tv,.map (some m)],.agg (o.fB Ao co).toArray] w (BC wi aF M (fD M x o) w):=by
 obtain⟨At,ct,rfl,hrt,hy⟩:=ht
 have HT:Hid (aK w (.slice At x.t.length ct) x.t):=⟨At,ct,rfl,hrt,hy⟩
 have SN:=Hd hm;have HR:=Hd hr;have dO:=Hd ok;have HN:=Hd hn;have HG:=Hd hg;have JI:=Hd hfx;have HO:=Hd ho;unfold BC
 obtain⟨R,hR⟩:∃R,fD M x o=R:=⟨_,rfl⟩
 have HE:=Hd hR;rw[hR];clear hR hm hr hrt hy ok hn hg hfx ho;have HB0:Hid (bz w (((w.alloc (.cells (Vb wi aF M At x.t.length ct m).toArray 30)).alloc (.cells (o.fB Ao co).toArray 160)).alloc (.cells Vf.toArray 30))):=((bR.alloc nR _).alloc (by simp) _).alloc (by simp;omega) _;have jJ:Hid (ak (((w.alloc (.cells (Vb wi aF M At x.t.length ct m).toArray 30)).alloc (.cells (o.fB Ao co).toArray 160)).alloc (.cells Vf.toArray 30)) w.heap.size (Vb wi aF M At x.t.length ct m) 30):=((ak.new w (Vb wi aF M At x.t.length ct m) 30).al _).al _
 have jK:Hid (ax (((w.alloc (.cells (Vb wi aF M At x.t.length ct m).toArray 30)).alloc (.cells (o.fB Ao co).toArray 160)).alloc (.cells Vf.toArray 30)) (w.heap.size+1) (o.fB Ao co)):=(aN (w.alloc _) _ (by simp) (o.fB Ao co) _).alloc _;have iV:Hid (ak (((w.alloc (.cells (Vb wi aF M At x.t.length ct m).toArray 30)).alloc (.cells (o.fB Ao co).toArray 160)).alloc (.cells Vf.toArray 30)) (w.heap.size+2) Vf 30):=mY ((w.alloc _).alloc _) _ (by simp) Vf 30;go_enter func59,ntmps59
 go_upto_region 1 with (fail)
 generalize (((w.alloc (.cells (Vb wi aF M At x.t.length ct m).toArray 30)).alloc (.cells (o.fB Ao co).toArray 160)).alloc (.cells Vf.toArray 30))=w0 at *;have c0:=jK.o.c 0 rfl;have c1:=jK.o.c 1 rfl;have c2:=jK.o.c 2 rfl;have c3:=jK.o.c 3 rfl;have ci:w.heap.size+1<w0.heap.size:=jK.o.inside;have s3:w0.cell? ⟨w.heap.size,3,none⟩=some (.slice At x.t.length ct):=jJ.o.blk.cell 3;have si:w.heap.size<w0.heap.size:=jJ.o.inside;have t1:(o.k==1)=true:=by simpa using h1
 have nC:Hid (R=eQ M x o.i o.p o.n):=by show _=_;rw[← HE.o];unfold fD;rw[if_pos h1]
 clear h1 HE;go_wp2_with (fail);refine(a5l _ x.t o.i o.p o.n w0 (HT.o.below HB0.o) (by have:=HN.o;omega)).mono ?_;rintro e w1 ⟨v1,rfl,hd1,hb1⟩;have HB1:=Hd (HB0.o.trans (hb1.mono HB0.o.size));have ed:=Hd (ak.stays jJ.o ((hb1).block _ jJ.o.inside));have jd:=Hd (ak.stays iV.o ((hb1).block _ iV.o.inside));have xw:=Hd (jK.o.below' hb1);clear hb1 jJ jK iV HB0 c0 c1 c2 c3 ci s3 si
 obtain⟨⟨t1',e1⟩,hq⟩:∃q,gJ x.t o.i o.p o.n=q:=⟨_,rfl⟩
 have HQ:=Hd hq;unfold eQ at nC;rw[hq] at nC hd1 ⊢;simp only at nC hd1 ⊢;clear hq;obtain⟨A1,n1,rfl,hr1,hy1⟩:=hd1
 have HD1:Hid (aK w1 (.slice A1 t1'.length n1) t1'):=⟨A1,n1,rfl,hr1,hy1⟩
 clear hr1 hy1;by_cases he:¬e1=0
 ·have q:(e1==0)=false:=by simpa using he
  have HE2:Hid (R=(x,e1)):=by show _=_;rw[nC.o,if_pos he]
  have CG:=Hd he;clear nC he;go_wp2_with (first|(with_reducible refine gL ?_;first|(refine wt 30 0 rfl rfl rfl ed.o.blk ((Vb wi aF M At x.t.length ct m)) rfl underlying30 rfl ?_))|(with_reducible refine gS ?_;first|(refine au 30 _ _ rfl rfl rfl _ 0 rfl ((Vb wi aF M At x.t.length ct m)) rfl (Vf) jd.o.blk ((Vb wi aF M At x.t.length ct m)) rfl (nE rfl) (by kernel_rfl) rfl ?_;intro w2 HW2 bP)));rw[HE2.o]
  exact aH rfl rfl rfl bP.o underlying30 rfl (by kernel_rfl) ⟨_,rfl,SC _ _ _ _ _ _ _,fun e=>absurd e CG.o,HW2.o.below HB1.o (by omega)⟩
 ·obtain rfl:e1=0:=Decidable.not_not.1 he;clear he;have q:((0:Int)==0)=true:=by decide
  obtain⟨bk1,bk2,bk3,bk4,-,-⟩:=qR dO.o HQ.o;have Fj:=Hd (Ja dO.o HQ.o);have ZG:Hid (∀j,has t1' j=true↔j=o.i∨has x.t j=true):=bk4;have a1G:=Hd bk1;have HTI:Hid (has t1' o.i=true):=ah.2 (.inr bk2);clear bk1 bk2 bk3 bk4;rw[if_neg (by decide)] at nC;have hxn:(x.t.length:Int)<=900:=by have:=HN.o;omega
  have s2:w1.cell? ⟨w.heap.size,2,none⟩=some (.int .i64 M):=ed.o.blk.cell 2;have s3:w1.cell? ⟨w.heap.size,3,none⟩=some (.slice At x.t.length ct):=ed.o.blk.cell 3;have si:w.heap.size<w1.heap.size:=ed.o.inside;by_cases hM:M<((x.t.length+2:Nat):Int)
  ·have q2:decide (M<=(x.t.length:Int)+1)=true:=decide_eq_true (by omega);have HE2:Hid (R=(x,36)):=by show _=_;rw[nC.o,if_pos hM]
   clear nC hM;go_wp2_with (first|(with_reducible refine gL ?_;first|(refine wt 30 0 rfl rfl rfl ed.o.blk ((Vb wi aF M At x.t.length ct m)) rfl underlying30 rfl ?_))|(with_reducible refine gS ?_;first|(refine au 30 _ _ rfl rfl rfl _ 0 rfl ((Vb wi aF M At x.t.length ct m)) rfl (Vf) jd.o.blk ((Vb wi aF M At x.t.length ct m)) rfl (nE rfl) (by kernel_rfl) rfl ?_;intro w2 HW2 bP)));rw[HE2.o]
   exact aH rfl rfl rfl bP.o underlying30 rfl (by kernel_rfl) ⟨_,rfl,SC _ _ _ _ _ _ _,fun e=>absurd (show(36:Int)=0 from e) (by decide),HW2.o.below HB1.o (by omega)⟩
  ·have q2:decide (M<=(x.t.length:Int)+1)=false:=decide_eq_false (by omega);have HE2:Hid (R=(⟨t1',upd x.nd o.i Nd.plain,upd x.ws o.i Mp.o⟩,0)):=by show _=_;rw[nC.o,if_neg hM]
   clear nC hM;have f3:w1.frozen? ⟨w.heap.size,3,none⟩=false:=ed.o.blk.free 3
   go_upto_region 8 with (fail)
   have HS:Hid (Wrote w.heap.size w1 (w1.setCell ⟨w.heap.size,3,none⟩ (.slice A1 t1'.length n1))):=⟨3,[.slice A1 t1'.length n1],rfl⟩
   have lW:Hid (ak (w1.setCell ⟨w.heap.size,3,none⟩ (.slice A1 t1'.length n1)) w.heap.size (Vb wi aF M A1 t1'.length n1 m) 30):=ed.o.set 3 _;generalize hwq:(w1.setCell ⟨w.heap.size,3,none⟩ (.slice A1 t1'.length n1))=w2 at *;clear hwq;have HB2:Hid (bz w w2):=HS.o.below HB1.o nR;have kX:Hid (ak w2 (w.heap.size+2) Vf 30):=jd.o.stays (HS.o.far (by omega));have kY:=Hd (HS.o.blk (show w.heap.size+1≠w.heap.size by omega) xw.o);have HD2:Hid (aK w2 (.slice A1 t1'.length n1) t1'):=HD1.o.wrote ed.o (by decide) HS.o
   go_wp2_with (first|(with_reducible refine gL ?_;first|(refine wt 30 0 rfl rfl rfl lW.o.blk ((Vb wi aF M A1 t1'.length n1 m)) rfl underlying30 rfl ?_)));refine(mX wi aF M _ t1' m (has x.t) x.nd a1G.o (by have:=Fj.o;have:=HN.o;omega) w2 HD2.o (SN.o.below HB2.o)).mono ?_;rintro e w3 ⟨m',rfl,hdm,hbq,xO⟩;have ZJ:=Hd hdm;have a3W:Hid (w.heap.size<=m'):=Nat.le_trans HB2.o.size xO;have HD3:=Hd (HD2.o.below hbq);have HB3:=Hd (HB2.o.trans (hbq.mono HB2.o.size));have xq:=Hd (ak.stays lW.o ((hbq).block _ lW.o.inside))
   have sO:=Hd (ak.stays kX.o ((hbq).block _ kX.o.inside));have Jq:=Hd (kY.o.below' hbq);clear hdm hbq xO s2 s3 si f3 lW kX kY HD2 HB2 HS ed jd xw HD1 HB1;have HMM:Hid (w.heap.size+2≠m'):=ZJ.o.uj sO.o.blk
   go_upto_region 9 with (first|(with_reducible refine gS ?_;first|(refine au 30 _ _ rfl rfl rfl _ 0 rfl ((Vb wi aF M A1 t1'.length n1 m')) rfl ((Vb wi aF M A1 t1'.length n1 m)) xq.o.blk ((Vb wi aF M A1 t1'.length n1 m')) rfl (nE rfl) (by kernel_rfl) rfl ?_;intro w4 yc lX)))
   have HD4:Hid (aK w4 (.slice A1 t1'.length n1) t1'):=HD3.o.wrote xq.o (by decide) yc.o;have a6a:Hid (dL w4 m' (has t1') (Uh (has x.t) x.nd)):=ZJ.o.wrote xq.o.blk (by unfold kG;simp) yc.o;have HB4:Hid (bz w w4):=yc.o.below HB3.o nR;have xu:Hid (ak w4 (w.heap.size+2) Vf 30):=sO.o.stays (yc.o.far (by omega));have Nb:=Hd (yc.o.blk (show w.heap.size+1≠w.heap.size by omega) Jq.o)
   have BH:Hid (MJ w.heap.size [(w.heap.size,(Vb wi aF M A1 t1'.length n1 m')),(w.heap.size+1,o.fB Ao co),(w.heap.size+2,Vf)] m' (has t1') (Uh (has x.t) x.nd) (upd (Uh (has x.t) x.nd) o.i Nd.plain) (.slice A1 t1'.length n1) t1' (w.heap.size+2) false w4):=⟨⟨lX.o,Nb.o,xu.o.blk,trivial⟩,HB4.o.size,fun _=>a6a.o,nofun,HD4.o,xu.o⟩
   have HMG:Hid (w.heap.size<=m'):=a3W.o;have HMI:Hid (t1'.length<=100000):=by have:=Fj.o;have:=HN.o;show _<=_;omega
   refine wR (Below w.heap.size) (fun L wx=>MJ w.heap.size [(w.heap.size,(Vb wi aF M A1 t1'.length n1 m')),(w.heap.size+1,o.fB Ao co),(w.heap.size+2,Vf)] m' (has t1') (Uh (has x.t) x.nd) (upd (Uh (has x.t) x.nd) o.i Nd.plain) (.slice A1 t1'.length n1) t1' (w.heap.size+2) (L 5) wx) [46,47,48,49,50] (fun _=>bR) (fun _ _ _ h k=>h.trans k) (fun i=>match i with
    |0=>rp w.heap.size 4
    |1=>rV (.map (some m'))
    |2=>rp (w.heap.size+1) 1
    |3=>rV (.int .i64 o.i)
    |4=>rV (.agg (Nd.plain.cs none 0).toArray)
    | _=>ra) (bR.drew) (BH.o.below bR.drew) ⟨?_,?_,?_,?_,?_,?_,trivial⟩ ?_
   any_goals (first|refine zp fun L a w1 hh=>?_|fail)
   have h2:=hh.p 2 w.heap.size 0;have i0:=(hh.st.old.1).inside;rotate_left;have h46:=rq (hh.d 0 46);have ⟨c0,i0⟩:=(hh.st.old.1).ci 4 rfl;rotate_left;have h3:=hh.p 3 ((w.heap.size+1)) 0;have i0:=(hh.st.old.2.1).inside;rotate_left;have h48:=rq (hh.d 2 48);have ⟨c0,i0⟩:=(hh.st.old.2.1).ci 1 rfl;rotate_left
   ·have hC:=Hd (AB w1);have hJ:=hh.j;clear hh;go_simp;refine hC.o.mono ?_;rintro e w9 ⟨rfl,aU⟩;exact⟨_,rfl,aU.mono hJ.o.iy,rfl,hJ.o.below aU⟩
   ·have h47:=rq (hh.d 1 47);have h49:=rq (hh.d 3 49);have h50:=rq (hh.d 4 50);have hj:=hh.st;rw[hh.un] at hj;obtain⟨w9,hrun,hj9,aU⟩:=hj.store (n:=Nd.plain) (fun _=>rfl) HMI.o HO.o.i HTI.o ⟨none,0,rfl,ng.none_ rfl⟩ HMG.o;unfold Nd.v at hrun;have hJ9:=Hd hj9;have fV:=Hd aU;clear hh hj hj9 aU;go_simp;exact⟨fV.o,⟨undef,trivial⟩,hJ9.o⟩
   any_goals (have hJ:=hh.j;clear hh;go_simp;exact⟨_,rfl,bR,rfl,hJ.o⟩)
   intro L w5 val hL hJ hR hv;have jI:=Hd hR;have hj5:=hJ;rw[hL 5 (by decide)] at hj5;have HJ5:=Hd hj5;clear hv hL hJ hR hj5;simp only[regs.aA,List.map_cons,List.map_nil];simp only[Act.put,List.setIfInBounds_toArray,List.set_cons_zero,List.set_cons_succ]
   skip
   have Xt:=Hd HJ5.o.old.1;have RH:=Hd HJ5.o.old.2.2.1;have gz:Hid (bz w w5):=HB4.o.trans jI.o;have a5R:Hid (ak w5 (w.heap.size+2) Vf 30):=HJ5.o.rt
   have ZL:Hid (eF w5 (.agg (Vb wi aF M A1 t1'.length n1 m').toArray) wi aF M ⟨t1',upd x.nd o.i Nd.plain,upd x.ws o.i Mp.o⟩):=⟨_,m',rfl,HJ5.o.tr,(HJ5.o.yes rfl).alike (fun _=>rfl) fun j hj=>by
    show upd x.nd o.i Nd.plain j=upd (Uh (has x.t) x.nd) o.i Nd.plain j;by_cases e:j=o.i
    ·rw[e,upd_same,upd_same]
    ·rw[upd_ne _ e,upd_ne _ e]
     exact(if_pos (((ZG.o j).1 hj).resolve_left e)).symm⟩
   go_wp2_with (first|(with_reducible refine gL ?_;first|(refine wt 30 0 rfl rfl rfl Xt.o ((Vb wi aF M A1 t1'.length n1 m')) rfl underlying30 rfl ?_))|(with_reducible refine gS ?_;first|(refine au 30 _ _ rfl rfl rfl _ 0 rfl ((Vb wi aF M A1 t1'.length n1 m')) rfl (Vf) RH.o ((Vb wi aF M A1 t1'.length n1 m')) rfl (nE rfl) (by kernel_rfl) rfl ?_;intro w6 uU RN)));rw[HE2.o]
   exact aH rfl rfl rfl RN.o underlying30 rfl (by kernel_rfl) ⟨_,rfl,SC _ _ _ _ _ _ _,fun _=>ZL.o.wrote a5R.o (by decide) (by unfold kG;simp) uU.o,uU.o.below gz.o (by omega)⟩
theorem a3p(o:dJ)(Ao:Option Addr)(co:Nat)(wi aF M:Int)(tv:Value)(x:aJ)(m:Nat)(ok:Ok x.t)(hn:x.t.length<=900)(hg:Good x)(hfx:∀i,Fit (x.nd i))(ho:lV o)(w:World)(hr:ng w Ao o.lk.l)(ht:aK w tv x.t)(hm:dL w m (has x.t) x.nd)(h2:o.k=2):Calls prog 59 #[.agg #[.int .i64 wi,.int .i64 aF,.int .i64 M,tv,.map (some m)],.agg (o.fB Ao co).toArray] w (BC wi aF M (fD M x o) w):=by
 have h1:¬o.k=1:=by omega
 obtain⟨At,ct,rfl,hrt,hy⟩:=ht
 have HT:Hid (aK w (.slice At x.t.length ct) x.t):=⟨At,ct,rfl,hrt,hy⟩
 have SN:=Hd hm;have HR:=Hd hr;have dO:=Hd ok;have HN:=Hd hn;have HG:=Hd hg;have JI:=Hd hfx;have HO:=Hd ho;unfold BC
 obtain⟨R,hR⟩:∃R,fD M x o=R:=⟨_,rfl⟩
 have HE:=Hd hR;rw[hR];clear hR hm hr hrt hy ok hn hg hfx ho;have HB0:Hid (bz w (((w.alloc (.cells (Vb wi aF M At x.t.length ct m).toArray 30)).alloc (.cells (o.fB Ao co).toArray 160)).alloc (.cells Vf.toArray 30))):=((bR.alloc nR _).alloc (by simp) _).alloc (by simp;omega) _;have jJ:Hid (ak (((w.alloc (.cells (Vb wi aF M At x.t.length ct m).toArray 30)).alloc (.cells (o.fB Ao co).toArray 160)).alloc (.cells Vf.toArray 30)) w.heap.size (Vb wi aF M At x.t.length ct m) 30):=((ak.new w (Vb wi aF M At x.t.length ct m) 30).al _).al _
 have jK:Hid (ax (((w.alloc (.cells (Vb wi aF M At x.t.length ct m).toArray 30)).alloc (.cells (o.fB Ao co).toArray 160)).alloc (.cells Vf.toArray 30)) (w.heap.size+1) (o.fB Ao co)):=(aN (w.alloc _) _ (by simp) (o.fB Ao co) _).alloc _;have iV:Hid (ak (((w.alloc (.cells (Vb wi aF M At x.t.length ct m).toArray 30)).alloc (.cells (o.fB Ao co).toArray 160)).alloc (.cells Vf.toArray 30)) (w.heap.size+2) Vf 30):=mY ((w.alloc _).alloc _) _ (by simp) Vf 30;go_enter func59,ntmps59
 go_upto_region 1 with (fail)
 generalize (((w.alloc (.cells (Vb wi aF M At x.t.length ct m).toArray 30)).alloc (.cells (o.fB Ao co).toArray 160)).alloc (.cells Vf.toArray 30))=w0 at *;have c0:=jK.o.c 0 rfl;have c1:=jK.o.c 1 rfl;have ci:w.heap.size+1<w0.heap.size:=jK.o.inside;have s3:w0.cell? ⟨w.heap.size,3,none⟩=some (.slice At x.t.length ct):=jJ.o.blk.cell 3;have si:w.heap.size<w0.heap.size:=jJ.o.inside;have t1:(o.k==1)=false:=by simpa using h1
 have t2:(o.k==2)=true:=by simpa using h2
 have nC:Hid (R=fF x o.i):=by show _=_;rw[← HE.o];unfold fD;rw[if_neg h1,if_pos h2]
 clear h1 h2 HE;go_wp2_with (fail);refine(a5k _ x.t o.i w0 dO.o (HT.o.below HB0.o) (by have:=HN.o;omega)).mono ?_;rintro e w1 ⟨v1,u1,rfl,hd1,-,hb1⟩;have HB1:=Hd (HB0.o.trans (hb1.mono HB0.o.size));have ed:=Hd (ak.stays jJ.o ((hb1).block _ jJ.o.inside));have jd:=Hd (ak.stays iV.o ((hb1).block _ iV.o.inside));have xw:=Hd (jK.o.below' hb1);clear hb1 jJ jK iV HB0 c0 c1 ci s3 si;have HRO:=Hd (tY dO.o o.i)
 obtain⟨⟨t1',k1,e1⟩,hq⟩:∃q,jy x.t o.i=q:=⟨_,rfl⟩
 have HQ:=Hd hq;unfold fF at nC;rw[hq] at nC HRO hd1 ⊢;simp only at nC HRO hd1 ⊢;clear hq;obtain⟨A1,n1,rfl,hr1,hy1⟩:=hd1
 have HD1:Hid (aK w1 (.slice A1 t1'.length n1) t1'):=⟨A1,n1,rfl,hr1,hy1⟩
 clear hr1 hy1;by_cases he:¬e1=0
 ·have q:(e1==0)=false:=by simpa using he
  have HE2:Hid (R=(x,e1)):=by show _=_;rw[nC.o,if_pos he]
  have CG:=Hd he;clear nC he;go_wp2_with (first|(with_reducible refine gL ?_;first|(refine wt 30 0 rfl rfl rfl ed.o.blk ((Vb wi aF M At x.t.length ct m)) rfl underlying30 rfl ?_))|(with_reducible refine gS ?_;first|(refine au 30 _ _ rfl rfl rfl _ 0 rfl ((Vb wi aF M At x.t.length ct m)) rfl (Vf) jd.o.blk ((Vb wi aF M At x.t.length ct m)) rfl (nE rfl) (by kernel_rfl) rfl ?_;intro w2 HW2 bP)));rw[HE2.o]
  exact aH rfl rfl rfl bP.o underlying30 rfl (by kernel_rfl) ⟨_,rfl,SC _ _ _ _ _ _ _,fun e=>absurd e CG.o,HW2.o.below HB1.o (by omega)⟩
 ·obtain rfl:e1=0:=Decidable.not_not.1 he;clear he;have q:((0:Int)==0)=true:=by decide
  have HE2:Hid (R=(⟨t1',x.nd,x.ws⟩,0)):=by show _=_;rw[nC.o,if_neg (by decide)]
  have a1G:Hid (Ok t1'):=HRO.o.1;have Fj:Hid (t1'.length<=x.t.length):=HRO.o.2
  have ZG:Hid (∀j,has t1' j=true->has x.t j=true):=fun j hj=>by
   obtain⟨y1,y2⟩:=zy (t:=x.t) (i:=o.i) (by rw[HQ.o]);rw[HQ.o] at y2
   injection y2 with y2 _
   rw[y2] at hj;exact((Af dO.o y1).1 hj).2
  clear nC HRO;have s3:w1.cell? ⟨w.heap.size,3,none⟩=some (.slice At x.t.length ct):=ed.o.blk.cell 3;have si:w.heap.size<w1.heap.size:=ed.o.inside;have f3:w1.frozen? ⟨w.heap.size,3,none⟩=false:=ed.o.blk.free 3
  go_upto_region 16 with (fail)
  have HS:Hid (Wrote w.heap.size w1 (w1.setCell ⟨w.heap.size,3,none⟩ (.slice A1 t1'.length n1))):=⟨3,[.slice A1 t1'.length n1],rfl⟩
  have lW:Hid (ak (w1.setCell ⟨w.heap.size,3,none⟩ (.slice A1 t1'.length n1)) w.heap.size (Vb wi aF M A1 t1'.length n1 m) 30):=ed.o.set 3 _;generalize hwq:(w1.setCell ⟨w.heap.size,3,none⟩ (.slice A1 t1'.length n1))=w2 at *;clear hwq;have HB2:Hid (bz w w2):=HS.o.below HB1.o nR;have kX:Hid (ak w2 (w.heap.size+2) Vf 30):=jd.o.stays (HS.o.far (by omega));have kY:=Hd (HS.o.blk (show w.heap.size+1≠w.heap.size by omega) xw.o);have HD2:Hid (aK w2 (.slice A1 t1'.length n1) t1'):=HD1.o.wrote ed.o (by decide) HS.o
  go_wp2_with (first|(with_reducible refine gL ?_;first|(refine wt 30 0 rfl rfl rfl lW.o.blk ((Vb wi aF M A1 t1'.length n1 m)) rfl underlying30 rfl ?_)));refine(mX wi aF M _ t1' m (has x.t) x.nd a1G.o (by have:=Fj.o;have:=HN.o;omega) w2 HD2.o (SN.o.below HB2.o)).mono ?_;rintro e w3 ⟨m',rfl,hdm,hbq,xO⟩;have ZJ:=Hd hdm;have a3W:Hid (w.heap.size<=m'):=Nat.le_trans HB2.o.size xO;have HD3:=Hd (HD2.o.below hbq);have HB3:=Hd (HB2.o.trans (hbq.mono HB2.o.size));have xq:=Hd (ak.stays lW.o ((hbq).block _ lW.o.inside))
  have sO:=Hd (ak.stays kX.o ((hbq).block _ kX.o.inside));have Jq:=Hd (kY.o.below' hbq);clear hdm hbq s3 si f3 xO lW kX kY HD2 HB2 HS ed jd xw HD1 HB1;go_wp2_with (first|(with_reducible refine gS ?_;first|(refine au 30 _ _ rfl rfl rfl _ 0 rfl ((Vb wi aF M A1 t1'.length n1 m')) rfl (Vf) sO.o.blk ((Vb wi aF M A1 t1'.length n1 m')) rfl (nE rfl) (by kernel_rfl) rfl ?_;intro w4 yc lX)));rw[HE2.o]
  exact aH rfl rfl rfl lX.o underlying30 rfl (by kernel_rfl) ⟨_,rfl,SC _ _ _ _ _ _ _,fun _=>⟨_,m',rfl,HD3.o.wrote sO.o (by decide) yc.o,(ZJ.o.wrote sO.o.blk (by unfold kG;simp) yc.o).alike (fun _=>rfl) fun j hj=>(if_pos (ZG.o j hj)).symm⟩,yc.o.below HB3.o (by omega)⟩
theorem a3o(o:dJ)(Ao:Option Addr)(co:Nat)(wi aF M:Int)(tv:Value)(x:aJ)(m:Nat)(ok:Ok x.t)(hn:x.t.length<=900)(hg:Good x)(hfx:∀i,Fit (x.nd i))(ho:lV o)(w:World)(hr:ng w Ao o.lk.l)(ht:aK w tv x.t)(hm:dL w m (has x.t) x.nd)(h3:o.k=3):Calls prog 59 #[.agg #[.int .i64 wi,.int .i64 aF,.int .i64 M,tv,.map (some m)],.agg (o.fB Ao co).toArray] w (BC wi aF M (fD M x o) w):=by
 have h1:¬o.k=1:=by omega
 have h2:¬o.k=2:=by omega
 obtain⟨At,ct,rfl,hrt,hy⟩:=ht
 have HT:Hid (aK w (.slice At x.t.length ct) x.t):=⟨At,ct,rfl,hrt,hy⟩
 have SN:=Hd hm;have HR:=Hd hr;have dO:=Hd ok;have HN:=Hd hn;have HG:=Hd hg;have JI:=Hd hfx;have HO:=Hd ho;unfold BC
 obtain⟨R,hR⟩:∃R,fD M x o=R:=⟨_,rfl⟩
 have HE:=Hd hR;rw[hR];clear hR hm hr hrt hy ok hn hg hfx ho;have HB0:Hid (bz w (((w.alloc (.cells (Vb wi aF M At x.t.length ct m).toArray 30)).alloc (.cells (o.fB Ao co).toArray 160)).alloc (.cells Vf.toArray 30))):=((bR.alloc nR _).alloc (by simp) _).alloc (by simp;omega) _;have jJ:Hid (ak (((w.alloc (.cells (Vb wi aF M At x.t.length ct m).toArray 30)).alloc (.cells (o.fB Ao co).toArray 160)).alloc (.cells Vf.toArray 30)) w.heap.size (Vb wi aF M At x.t.length ct m) 30):=((ak.new w (Vb wi aF M At x.t.length ct m) 30).al _).al _
 have jK:Hid (ax (((w.alloc (.cells (Vb wi aF M At x.t.length ct m).toArray 30)).alloc (.cells (o.fB Ao co).toArray 160)).alloc (.cells Vf.toArray 30)) (w.heap.size+1) (o.fB Ao co)):=(aN (w.alloc _) _ (by simp) (o.fB Ao co) _).alloc _;have iV:Hid (ak (((w.alloc (.cells (Vb wi aF M At x.t.length ct m).toArray 30)).alloc (.cells (o.fB Ao co).toArray 160)).alloc (.cells Vf.toArray 30)) (w.heap.size+2) Vf 30):=mY ((w.alloc _).alloc _) _ (by simp) Vf 30;go_enter func59,ntmps59
 go_upto_region 1 with (fail)
 generalize (((w.alloc (.cells (Vb wi aF M At x.t.length ct m).toArray 30)).alloc (.cells (o.fB Ao co).toArray 160)).alloc (.cells Vf.toArray 30))=w0 at *;have c0:=jK.o.c 0 rfl;have c1:=jK.o.c 1 rfl;have c2:=jK.o.c 2 rfl;have c3:=jK.o.c 3 rfl;have ci:w.heap.size+1<w0.heap.size:=jK.o.inside;have s3:w0.cell? ⟨w.heap.size,3,none⟩=some (.slice At x.t.length ct):=jJ.o.blk.cell 3;have si:w.heap.size<w0.heap.size:=jJ.o.inside;have t1:(o.k==1)=false:=by simpa using h1
 have t2:(o.k==2)=false:=by simpa using h2
 have t3:(o.k==3)=true:=by simpa using h3
 have nC:Hid (R=lK x o.i o.p o.n):=by show _=_;rw[← HE.o];unfold fD;rw[if_neg h1,if_neg h2,if_pos h3]
 clear h1 h2 h3 HE;go_wp2_with (fail);refine(a3k _ x.t o.i o.p o.n w0 dO.o (HT.o.below HB0.o) (by have:=HN.o;omega)).mono ?_;rintro e w1 ⟨v1,rfl,hd1,hb1⟩;have HB1:=Hd (HB0.o.trans (hb1.mono HB0.o.size));have ed:=Hd (ak.stays jJ.o ((hb1).block _ jJ.o.inside));have jd:=Hd (ak.stays iV.o ((hb1).block _ iV.o.inside));have xw:=Hd (jK.o.below' hb1);clear hb1 jJ jK iV HB0 c0 c1 c2 c3 ci s3 si
 obtain⟨⟨t1',e1⟩,hq⟩:∃q,jT x.t o.i o.p o.n=q:=⟨_,rfl⟩
 have HQ:=Hd hq;unfold lK at nC;rw[hq] at nC hd1 ⊢;simp only at nC hd1 ⊢;clear hq;obtain⟨A1,n1,rfl,hr1,hy1⟩:=hd1
 have HD1:Hid (aK w1 (.slice A1 t1'.length n1) t1'):=⟨A1,n1,rfl,hr1,hy1⟩
 clear hr1 hy1
 have HR2:Hid (R.2=e1∧(e1=0->R.1=⟨t1',x.nd,x.ws⟩)):=by
  by_cases he:e1=0
  ·subst he;rw[show R=_ from nC.o,if_neg (by decide)];exact⟨rfl,fun _=>rfl⟩
  ·rw[show R=_ from nC.o,if_pos he];exact⟨rfl,fun e=>absurd e he⟩
 have ZG:Hid (e1=0->∀j,has t1' j=has x.t j):=fun he j=>by
  subst he;obtain⟨y1,y2,-⟩:=zQ (t:=x.t) (i:=o.i) (p:=o.p) (n:=o.n) (by rw[HQ.o]);rw[HQ.o] at y1;simp only at y1;rw[Bool.eq_iff_iff,ah,ah,y1,iH y2]
 clear nC;have s3:w1.cell? ⟨w.heap.size,3,none⟩=some (.slice At x.t.length ct):=ed.o.blk.cell 3;have si:w.heap.size<w1.heap.size:=ed.o.inside;have f3:w1.frozen? ⟨w.heap.size,3,none⟩=false:=ed.o.blk.free 3
 go_upto_region 20 with (fail)
 have HS:Hid (Wrote w.heap.size w1 (w1.setCell ⟨w.heap.size,3,none⟩ (.slice A1 t1'.length n1))):=⟨3,[.slice A1 t1'.length n1],rfl⟩
 have lW:Hid (ak (w1.setCell ⟨w.heap.size,3,none⟩ (.slice A1 t1'.length n1)) w.heap.size (Vb wi aF M A1 t1'.length n1 m) 30):=ed.o.set 3 _;generalize hwq:(w1.setCell ⟨w.heap.size,3,none⟩ (.slice A1 t1'.length n1))=w2 at *;clear hwq;have HB2:Hid (bz w w2):=HS.o.below HB1.o nR;have kX:Hid (ak w2 (w.heap.size+2) Vf 30):=jd.o.stays (HS.o.far (by omega));have kY:=Hd (HS.o.blk (show w.heap.size+1≠w.heap.size by omega) xw.o);have HD2:Hid (aK w2 (.slice A1 t1'.length n1) t1'):=HD1.o.wrote ed.o (by decide) HS.o;clear s3 si f3
 go_wp2_with (first|(with_reducible refine gL ?_;first|(refine wt 30 0 rfl rfl rfl lW.o.blk ((Vb wi aF M A1 t1'.length n1 m)) rfl underlying30 rfl ?_))|(with_reducible refine gS ?_;first|(refine au 30 _ _ rfl rfl rfl _ 0 rfl ((Vb wi aF M A1 t1'.length n1 m)) rfl (Vf) kX.o.blk ((Vb wi aF M A1 t1'.length n1 m)) rfl (nE rfl) (by kernel_rfl) rfl ?_;intro w4 yc lX)));rw[HR2.o.1];refine aH rfl rfl rfl lX.o underlying30 rfl (by kernel_rfl) ⟨_,rfl,SC _ _ _ _ _ _ _,fun e=>?_,yc.o.below HB2.o (by omega)⟩;rw[HR2.o.2 e]
 exact⟨_,m,rfl,HD2.o.wrote kX.o (by decide) yc.o,(SN.o.below (yc.o.below HB2.o (by omega))).alike (ZG.o e) fun _ _=>rfl⟩
theorem a3n(o:dJ)(Ao:Option Addr)(co:Nat)(wi aF M:Int)(tv:Value)(x:aJ)(m:Nat)(ok:Ok x.t)(hn:x.t.length<=900)(hg:Good x)(hfx:∀i,Fit (x.nd i))(ho:lV o)(w:World)(hr:ng w Ao o.lk.l)(ht:aK w tv x.t)(hm:dL w m (has x.t) x.nd)(h9:¬(1<=o.k∧o.k<=8)):Calls prog 59 #[.agg #[.int .i64 wi,.int .i64 aF,.int .i64 M,tv,.map (some m)],.agg (o.fB Ao co).toArray] w (BC wi aF M (fD M x o) w):=by
 have h1:¬o.k=1:=by omega
 have h2:¬o.k=2:=by omega
 have h3:¬o.k=3:=by omega
 obtain⟨At,ct,rfl,hrt,hy⟩:=ht
 have HT:Hid (aK w (.slice At x.t.length ct) x.t):=⟨At,ct,rfl,hrt,hy⟩
 have SN:=Hd hm;have HR:=Hd hr;have dO:=Hd ok;have HN:=Hd hn;have HG:=Hd hg;have JI:=Hd hfx;have HO:=Hd ho;unfold BC
 obtain⟨R,hR⟩:∃R,fD M x o=R:=⟨_,rfl⟩
 have HE:=Hd hR;rw[hR];clear hR hm hr hrt hy ok hn hg hfx ho;have HB0:Hid (bz w (((w.alloc (.cells (Vb wi aF M At x.t.length ct m).toArray 30)).alloc (.cells (o.fB Ao co).toArray 160)).alloc (.cells Vf.toArray 30))):=((bR.alloc nR _).alloc (by simp) _).alloc (by simp;omega) _;have jJ:Hid (ak (((w.alloc (.cells (Vb wi aF M At x.t.length ct m).toArray 30)).alloc (.cells (o.fB Ao co).toArray 160)).alloc (.cells Vf.toArray 30)) w.heap.size (Vb wi aF M At x.t.length ct m) 30):=((ak.new w (Vb wi aF M At x.t.length ct m) 30).al _).al _
 have jK:Hid (ax (((w.alloc (.cells (Vb wi aF M At x.t.length ct m).toArray 30)).alloc (.cells (o.fB Ao co).toArray 160)).alloc (.cells Vf.toArray 30)) (w.heap.size+1) (o.fB Ao co)):=(aN (w.alloc _) _ (by simp) (o.fB Ao co) _).alloc _;have iV:Hid (ak (((w.alloc (.cells (Vb wi aF M At x.t.length ct m).toArray 30)).alloc (.cells (o.fB Ao co).toArray 160)).alloc (.cells Vf.toArray 30)) (w.heap.size+2) Vf 30):=mY ((w.alloc _).alloc _) _ (by simp) Vf 30;go_enter func59,ntmps59
 go_upto_region 1 with (fail)
 generalize (((w.alloc (.cells (Vb wi aF M At x.t.length ct m).toArray 30)).alloc (.cells (o.fB Ao co).toArray 160)).alloc (.cells Vf.toArray 30))=w0 at *;have c0:=jK.o.c 0 rfl;have ci:w.heap.size+1<w0.heap.size:=jK.o.inside;have t1:(o.k==1)=false:=by simpa using h1
 have t2:(o.k==2)=false:=by simpa using h2
 have t3:(o.k==3)=false:=by simpa using h3
 have HE2:Hid (R=(x,38)):=by show _=_;rw[← HE.o];unfold fD;rw[if_neg h1,if_neg h2,if_neg h3,if_neg (by omega)]
 clear h1 h2 h3 HE;by_cases hl:o.k<1
 ·have q1:decide (o.k<1)=true:=decide_eq_true hl;clear hl h9;go_wp2_with (first|(with_reducible refine gL ?_;first|(refine wt 30 0 rfl rfl rfl jJ.o.blk ((Vb wi aF M At x.t.length ct m)) rfl underlying30 rfl ?_))|(with_reducible refine gS ?_;first|(refine au 30 _ _ rfl rfl rfl _ 0 rfl ((Vb wi aF M At x.t.length ct m)) rfl (Vf) iV.o.blk ((Vb wi aF M At x.t.length ct m)) rfl (nE rfl) (by kernel_rfl) rfl ?_;intro w2 HW2 bP)));rw[HE2.o]
  exact aH rfl rfl rfl bP.o underlying30 rfl (by kernel_rfl) ⟨_,rfl,SC _ _ _ _ _ _ _,fun e=>absurd (show(38:Int)=0 from e) (by decide),HW2.o.below HB0.o (by omega)⟩
 ·have q1:decide (o.k<1)=false:=decide_eq_false hl;have q2:decide ((8:Int)<o.k)=true:=decide_eq_true (by omega);clear hl h9;go_wp2_with (first|(with_reducible refine gL ?_;first|(refine wt 30 0 rfl rfl rfl jJ.o.blk ((Vb wi aF M At x.t.length ct m)) rfl underlying30 rfl ?_))|(with_reducible refine gS ?_;first|(refine au 30 _ _ rfl rfl rfl _ 0 rfl ((Vb wi aF M At x.t.length ct m)) rfl (Vf) iV.o.blk ((Vb wi aF M At x.t.length ct m)) rfl (nE rfl) (by kernel_rfl) rfl ?_;intro w2 HW2 bP)));rw[HE2.o]
  exact aH rfl rfl rfl bP.o underlying30 rfl (by kernel_rfl) ⟨_,rfl,SC _ _ _ _ _ _ _,fun e=>absurd (show(38:Int)=0 from e) (by decide),HW2.o.below HB0.o (by omega)⟩
theorem a3m(o:dJ)(Ao:Option Addr)(co:Nat)(wi aF M:Int)(tv:Value)(x:aJ)(m:Nat)(ok:Ok x.t)(hn:x.t.length<=900)(hg:Good x)(hfx:∀i,Fit (x.nd i))(ho:lV o)(w:World)(hr:ng w Ao o.lk.l)(ht:aK w tv x.t)(hm:dL w m (has x.t) x.nd)(h4:4<=o.k∧o.k<=8):Calls prog 59 #[.agg #[.int .i64 wi,.int .i64 aF,.int .i64 M,tv,.map (some m)],.agg (o.fB Ao co).toArray] w (BC wi aF M (fD M x o) w):=by
 have h1:¬o.k=1:=by omega
 have h2:¬o.k=2:=by omega
 have h3:¬o.k=3:=by omega
 obtain⟨At,ct,rfl,hrt,hy⟩:=ht
 have HT:Hid (aK w (.slice At x.t.length ct) x.t):=⟨At,ct,rfl,hrt,hy⟩
 have SN:=Hd hm;have HR:=Hd hr;have dO:=Hd ok;have HN:=Hd hn;have HG:=Hd hg;have JI:=Hd hfx;have HO:=Hd ho;unfold BC
 obtain⟨R,hR⟩:∃R,fD M x o=R:=⟨_,rfl⟩
 have HE:=Hd hR;rw[hR];clear hR hm hr hrt hy ok hn hg hfx ho;have HB0:Hid (bz w (((w.alloc (.cells (Vb wi aF M At x.t.length ct m).toArray 30)).alloc (.cells (o.fB Ao co).toArray 160)).alloc (.cells Vf.toArray 30))):=((bR.alloc nR _).alloc (by simp) _).alloc (by simp;omega) _;have jJ:Hid (ak (((w.alloc (.cells (Vb wi aF M At x.t.length ct m).toArray 30)).alloc (.cells (o.fB Ao co).toArray 160)).alloc (.cells Vf.toArray 30)) w.heap.size (Vb wi aF M At x.t.length ct m) 30):=((ak.new w (Vb wi aF M At x.t.length ct m) 30).al _).al _
 have jK:Hid (ax (((w.alloc (.cells (Vb wi aF M At x.t.length ct m).toArray 30)).alloc (.cells (o.fB Ao co).toArray 160)).alloc (.cells Vf.toArray 30)) (w.heap.size+1) (o.fB Ao co)):=(aN (w.alloc _) _ (by simp) (o.fB Ao co) _).alloc _;have iV:Hid (ak (((w.alloc (.cells (Vb wi aF M At x.t.length ct m).toArray 30)).alloc (.cells (o.fB Ao co).toArray 160)).alloc (.cells Vf.toArray 30)) (w.heap.size+2) Vf 30):=mY ((w.alloc _).alloc _) _ (by simp) Vf 30;go_enter func59,ntmps59
 go_upto_region 1 with (fail)
 generalize (((w.alloc (.cells (Vb wi aF M At x.t.length ct m).toArray 30)).alloc (.cells (o.fB Ao co).toArray 160)).alloc (.cells Vf.toArray 30))=w0 at *;have c0:=jK.o.c 0 rfl;have c1:=jK.o.c 1 rfl;have ci:w.heap.size+1<w0.heap.size:=jK.o.inside;have s3:w0.cell? ⟨w.heap.size,3,none⟩=some (.slice At x.t.length ct):=jJ.o.blk.cell 3;have s4:w0.cell? ⟨w.heap.size,4,none⟩=some (.map (some m)):=jJ.o.blk.cell 4;have si:w.heap.size<w0.heap.size:=jJ.o.inside;have t1:(o.k==1)=false:=by simpa using h1
 have t2:(o.k==2)=false:=by simpa using h2
 have t3:(o.k==3)=false:=by simpa using h3
 have nC:Hid (R=lZ x o):=by show _=_;rw[← HE.o];unfold fD;rw[if_neg h1,if_neg h2,if_neg h3,if_pos h4]
 have q1:decide (o.k<1)=false:=decide_eq_false (by omega);have q2:decide ((8:Int)<o.k)=false:=decide_eq_false (by omega);clear h1 h2 h3 h4 HE;go_wp2_with (fail);refine(VO At x.t ct o.i w0 (aK.a2w (HT.o.below HB0.o)) (by have:=HN.o;omega)).mono ?_;rintro e w1 ⟨rfl,hb1⟩;have HB1:=Hd (HB0.o.trans (hb1.mono HB0.o.size));have ed:=Hd (ak.stays jJ.o ((hb1).block _ jJ.o.inside));have jd:=Hd (ak.stays iV.o ((hb1).block _ iV.o.inside));have xw:=Hd (jK.o.below' hb1);clear hb1 jJ jK iV HB0 c0 c1 ci s3 s4 si q1 q2;unfold lZ at nC
 cases hh:has x.t o.i with
 | false=>
  have HE2:Hid (R=(x,30)):=by show _=_;rw[nC.o,if_pos hh]
  clear nC;go_wp2_with (first|(with_reducible refine gL ?_;first|(refine wt 30 0 rfl rfl rfl ed.o.blk ((Vb wi aF M At x.t.length ct m)) rfl underlying30 rfl ?_))|(with_reducible refine gS ?_;first|(refine au 30 _ _ rfl rfl rfl _ 0 rfl ((Vb wi aF M At x.t.length ct m)) rfl (Vf) jd.o.blk ((Vb wi aF M At x.t.length ct m)) rfl (nE rfl) (by kernel_rfl) rfl ?_;intro w2 HW2 bP)));rw[HE2.o]
  exact aH rfl rfl rfl bP.o underlying30 rfl (by kernel_rfl) ⟨_,rfl,SC _ _ _ _ _ _ _,fun e=>absurd (show(30:Int)=0 from e) (by decide),HW2.o.below HB1.o (by omega)⟩
 | true=>
  have HHH:Hid (has x.t o.i=true):=hh;rw[if_neg (by rw[hh];decide)] at nC;clear hh;obtain⟨An,cn,hrn,hlk⟩:=SN.o.look HO.o.i HHH.o;have JH:=Hd hlk;have Zg:=Hd hrn;have a5a:=hlk w1 HB1.o;clear hlk hrn;have c1:=xw.o.c 1 rfl;have ci:w.heap.size+1<w1.heap.size:=xw.o.inside;have s4:w1.cell? ⟨w.heap.size,4,none⟩=some (.map (some m)):=ed.o.blk.cell 4;have si:w.heap.size<w1.heap.size:=ed.o.inside;go_wp2_with (first|(with_reducible refine gL ?_;first|(refine wt 160 0 rfl rfl rfl xw.o (o.fB Ao co) rfl underlying160 rfl ?_)))
  refine(VF o Ao co (x.nd o.i) An cn w1).mono ?_;rintro e w2 ⟨rfl,hb2⟩;have HB2:=Hd (HB1.o.trans (hb2.mono HB1.o.size));have lW:=Hd (ak.stays ed.o ((hb2).block _ ed.o.inside));have kX:=Hd (ak.stays jd.o ((hb2).block _ jd.o.inside));have kY:=Hd (xw.o.below' hb2);clear hb2 a5a ed xw jd c1 ci s4 si;have HSN:Hid ((bJ (x.nd o.i) o).chk=(bJ Nd.plain o).chk):=Ov (HG.o o.i) o;have X4:Hid (Fit (bJ (x.nd o.i) o)):=ug ⟨HO.o.fit.p,HO.o.fit.l,HO.o.fit.len⟩ (JI.o o.i)
  have MP:Hid (∀W,bz w W->ng W (aV o Ao An) (bJ (x.nd o.i) o).lk.l):=fun W hb=>Yf (HR.o.below hb) (Zg.o.below hb)
  obtain⟨A7,hA7⟩:∃q,aV o Ao An=q:=⟨_,rfl⟩
  obtain⟨c7,hc7⟩:∃q,aV o co cn=q:=⟨_,rfl⟩
  rw[hA7] at MP;rw[hA7,hc7];clear hA7 hc7
  obtain⟨N1,hN1⟩:∃N1,bJ (x.nd o.i) o=N1:=⟨_,rfl⟩
  rw[hN1] at HSN X4 MP nC ⊢;clear hN1;rw[← HSN.o] at nC;have HZ:Hid (ax (w2.alloc (.cells Va.toArray 61)) w2.heap.size Va):=ay w2 Va _;have jF:Hid (Below w2.heap.size w2 (w2.alloc (.cells Va.toArray 61))):=bR.alloc nR _
  go_upto_region 26 with (first|(with_reducible refine gS ?_;first|(refine au 61 _ _ rfl rfl rfl _ 0 rfl (N1.cs A7 c7) rfl (Va) HZ.o (N1.cs A7 c7) rfl (nE rfl) (by kernel_rfl) (Nd.one _ _ _) ?_;intro w3 HW3 dh)))
  obtain⟨z,hz⟩:∃z,w2.heap.size=z:=⟨_,rfl⟩
  have iI:Hid (w.heap.size+2<z):=by rw[← hz];exact kX.o.inside
  rw[hz] at HW3 dh HZ jF ⊢;have HB3:Hid (bz w w3):=HW3.o.below (HB2.o.trans (jF.o.mono (by have:=iI.o;omega))) (by have:=iI.o;omega);have xq:Hid (ak w3 w.heap.size (Vb wi aF M At x.t.length ct m) 30):=(lW.o.stays (jF.o.block _ (by have:=iI.o;omega))).stays (HW3.o.far (by have:=iI.o;omega));have sO:Hid (ak w3 (w.heap.size+2) Vf 30):=(kX.o.stays (jF.o.block _ (by have:=iI.o;omega))).stays (HW3.o.far (by have:=iI.o;omega))
  have Jq:Hid (ax w3 (w.heap.size+1) (o.fB Ao co)):=HW3.o.blk (show w.heap.size+1≠z by have:=iI.o;omega) (kY.o.below (jF.o) (by have:=iI.o;omega));clear lW kX kY HB2 HZ jF HW3 hz;go_wp2_with (first|(with_reducible refine gL ?_;first|(refine wt 61 0 rfl rfl rfl dh.o (N1.cs A7 c7) rfl underlying61 rfl ?_)));refine(QM N1.m N1.op N1.hi N1.cl N1.r N1.lk.k N1.lk.W N1.lk.H N1.lk.p N1.lk.iw N1.lk.ih A7 N1.lk.l c7 X4.o.p X4.o.l (by have:=X4.o.len;unfold maxLen;omega) w3 (MP.o w3 HB3.o).row).mono ?_;rintro e w4 ⟨rfl,hb4⟩
  rw[show Ku N1.m N1.op N1.cl N1.r (yg N1.lk.k N1.lk.W N1.lk.H N1.lk.p N1.lk.iw N1.lk.ih N1.lk.l)=N1.chk from rfl];have HB4:=Hd (HB3.o.trans (hb4.mono HB3.o.size));have Xu:=Hd (ak.stays xq.o ((hb4).block _ xq.o.inside));have xu:=Hd (ak.stays sO.o ((hb4).block _ sO.o.inside));have Nb:=Hd (Jq.o.below' hb4);have lX:=Hd (dh.o.below' hb4);clear hb4 xq sO Jq dh HB3
  obtain⟨e1,he1⟩:∃e1,N1.chk=e1:=⟨_,rfl⟩
  rw[he1] at nC ⊢;clear he1;by_cases he:¬e1=0
  ·have q:(e1==0)=false:=by simpa using he
   have HE2:Hid (R=(x,e1)):=by show _=_;rw[nC.o,if_pos he]
   have CG:=Hd he;clear nC he;go_wp2_with (first|(with_reducible refine gL ?_;first|(refine wt 30 0 rfl rfl rfl Xu.o.blk ((Vb wi aF M At x.t.length ct m)) rfl underlying30 rfl ?_))|(with_reducible refine gS ?_;first|(refine au 30 _ _ rfl rfl rfl _ 0 rfl ((Vb wi aF M At x.t.length ct m)) rfl (Vf) xu.o.blk ((Vb wi aF M At x.t.length ct m)) rfl (nE rfl) (by kernel_rfl) rfl ?_;intro w5 xg qU)));rw[HE2.o]
   exact aH rfl rfl rfl qU.o underlying30 rfl (by kernel_rfl) ⟨_,rfl,SC _ _ _ _ _ _ _,fun e=>absurd e CG.o,xg.o.below HB4.o (by omega)⟩
  ·obtain rfl:e1=0:=Decidable.not_not.1 he;clear he;have q:((0:Int)==0)=true:=by decide
   have HE2:Hid (R=(⟨x.t,upd x.nd o.i N1,x.ws⟩,0)):=by show _=_;rw[nC.o,if_neg (by decide)]
   clear nC;go_wp2_with (first|(with_reducible refine gL ?_;first|(refine wt 30 0 rfl rfl rfl Xu.o.blk ((Vb wi aF M At x.t.length ct m)) rfl underlying30 rfl ?_)));refine(mX wi aF M _ x.t m (has x.t) x.nd dO.o (by have:=HN.o;omega) w4 (HT.o.below HB4.o) (SN.o.below HB4.o)).mono ?_;rintro e w5 ⟨m',rfl,hdm,hb5,xO⟩;have a5Z:=Hd hdm;have HMG:Hid (w.heap.size<=m'):=Nat.le_trans HB4.o.size xO;have gz:=Hd (HB4.o.trans (hb5.mono HB4.o.size));have Xt:=Hd (ak.stays Xu.o ((hb5).block _ Xu.o.inside))
   have RH:=Hd (ak.stays xu.o ((hb5).block _ xu.o.inside));have a4c:=Hd (Nb.o.below' hb5);have qU:=Hd (lX.o.below' hb5);have Rz:Hid (z≠w.heap.size):=by have:=iI.o;show _≠_;omega
   clear hdm hb5 xO Xu xu Nb lX HB4
   go_upto_region 30 with (first|(with_reducible refine gS ?_;first|(refine au 30 _ _ rfl rfl rfl _ 0 rfl ((Vb wi aF M At x.t.length ct m')) rfl ((Vb wi aF M At x.t.length ct m)) Xt.o.blk ((Vb wi aF M At x.t.length ct m')) rfl (nE rfl) (by kernel_rfl) rfl ?_;intro w6 uU RN)))
   have uZ:Hid (bz w w6):=uU.o.below gz.o nR;have HD6:Hid (aK w6 (.slice At x.t.length ct) x.t):=HT.o.below uZ.o;have ZI:Hid (dL w6 m' (has x.t) (Uh (has x.t) x.nd)):=a5Z.o.wrote Xt.o.blk (by unfold kG;simp) uU.o;have Xw:Hid (ak w6 (w.heap.size+2) Vf 30):=RH.o.stays (uU.o.far (by omega));have RI:=Hd (uU.o.blk (show w.heap.size+1≠w.heap.size by omega) a4c.o);have a5O:=Hd (uU.o.blk Rz.o qU.o);have Xr:=RN
   obtain⟨w7,hrun,a3e,hg7⟩:=ZI.o.store (t:=x.t) (fun _=>rfl) (by have:=HN.o;omega) HO.o.i HHH.o (v:=.agg (N1.cs A7 c7).toArray) (n:=N1) ⟨A7,c7,rfl,MP.o w6 uZ.o⟩;have a5Y:=Hd a3e;have a5P:Hid (ax w7 w.heap.size (Vb wi aF M At x.t.length ct m')):=Xr.o.stays (hg7.block _ Xr.o.inside fun e=>ZI.o.uj Xr.o (Option.some.inj e));have a1P:Hid (ak w7 (w.heap.size+2) Vf 30):=Xw.o.stays (hg7.block _ Xw.o.inside fun e=>ZI.o.uj Xw.o.blk (Option.some.inj e));have HD7:Hid (aK w7 (.slice At x.t.length ct) x.t):=HD6.o.grown ZI.o hg7
   have sU:Hid (bz w w7):=uZ.o.grown hg7 uZ.o.size fun j e=>by cases e;exact HMG.o
   clear a3e hg7 Xt RH a4c qU gz uU;have c1:=RI.o.c 1 rfl;have ci:w.heap.size+1<w6.heap.size:=RI.o.inside;have s4:w6.cell? ⟨w.heap.size,4,none⟩=some (.map (some m')):=Xr.o.cell 4;have si:w.heap.size<w6.heap.size:=Xr.o.inside
   go_upto_region 31 with (first|(with_reducible refine gL ?_;first|(refine wt 61 0 rfl rfl rfl a5O.o (N1.cs A7 c7) rfl underlying61 rfl ?_)))
   clear hrun c1 ci s4 si;go_wp2_with (first|(with_reducible refine gL ?_;first|(refine wt 30 0 rfl rfl rfl a5P.o ((Vb wi aF M At x.t.length ct m')) rfl underlying30 rfl ?_))|(with_reducible refine gS ?_;first|(refine au 30 _ _ rfl rfl rfl _ 0 rfl ((Vb wi aF M At x.t.length ct m')) rfl (Vf) a1P.o.blk ((Vb wi aF M At x.t.length ct m')) rfl (nE rfl) (by kernel_rfl) rfl ?_;intro w8 HW8 Xy)));rw[HE2.o]
   exact aH rfl rfl rfl Xy.o underlying30 rfl (by kernel_rfl) ⟨_,rfl,SC _ _ _ _ _ _ _,fun _=>⟨_,m',rfl,HD7.o.wrote a1P.o (by decide) HW8.o,(a5Y.o.wrote a1P.o.blk (by unfold kG;simp) HW8.o).alike (fun _=>rfl) fun j hj=>by
    show upd x.nd o.i N1 j=upd (Uh (has x.t) x.nd) o.i N1 j;by_cases e:j=o.i
    ·rw[e,upd_same,upd_same]
    ·rw[upd_ne _ e,upd_ne _ e]
     exact(if_pos hj).symm⟩,HW8.o.below sU.o (by omega)⟩
theorem YW(o:dJ)(Ao:Option Addr)(co:Nat)(wi aF M:Int)(tv:Value)(x:aJ)(m:Nat)(ok:Ok x.t)(hn:x.t.length<=900)(hg:Good x)(hfx:∀i,Fit (x.nd i))(ho:lV o)(w:World)(hr:ng w Ao o.lk.l)(ht:aK w tv x.t)(hm:dL w m (has x.t) x.nd):Calls prog 59 #[.agg #[.int .i64 wi,.int .i64 aF,.int .i64 M,tv,.map (some m)],.agg (o.fB Ao co).toArray] w (BC wi aF M (fD M x o) w):=by
 by_cases h1:o.k=1
 ·exact a3q o Ao co wi aF M tv x m ok hn hg hfx ho w hr ht hm h1
 by_cases h2:o.k=2
 ·exact a3p o Ao co wi aF M tv x m ok hn hg hfx ho w hr ht hm h2
 by_cases h3:o.k=3
 ·exact a3o o Ao co wi aF M tv x m ok hn hg hfx ho w hr ht hm h3
 by_cases h4:4<=o.k∧o.k<=8
 ·exact a3m o Ao co wi aF M tv x m ok hn hg hfx ho w hr ht hm h4
 exact a3n o Ao co wi aF M tv x m ok hn hg hfx ho w hr ht hm (by omega)
end
section
open Go.RowKit fK fZ aB Go.Maps
def a2L(o:Obj):Prop:=∃cs fz,o=.cells cs Ea fz∧kG cs.toList
structure DR(B:Nat)(w w':World):Prop where
 bel:Below B w w'
 same:∀(k:Nat) (o:Obj),w.heap[k]?=some o->¬a2L o->w'.heap[k]?=some o
theorem DR.refl(B:Nat)(w:World):DR B w w:=⟨bR,fun _ _ h _=>h⟩
theorem DR.trans{B:Nat}{w w1 w2:World}(h:DR B w w1)(k:DR B w1 w2):DR B w w2:=⟨h.bel.trans k.bel,fun j o h1 h2=>k.same j o (h.same j o h1 h2) h2⟩
theorem DR.below{B:Nat}{w w':World}(hb:bz w w')(hB:B<=w.heap.size):DR B w w':=⟨hb.mono hB,fun k _ h _=>(hb.block k (Array.getElem?_eq_some_iff.1 h).1).trans h⟩
theorem DR.wrote{B g:Nat}{w w':World}{cs:List Value}(hb:ak w g cs Ea)(hc:kG cs)(hW:Wrote g w w')(hB:B<=g):DR B w w':=⟨hW.below bR hB,fun k o h hn=>by
 by_cases e:k=g
 ·refine absurd ⟨cs.toArray,(0,0),?_,by simpa using hc⟩ hn;rw[e] at h;exact Option.some.inj (h.symm.trans hb)
 ·exact(hW.far e).trans h⟩
theorem Bf.dr{B:Nat}{w w':World}{A:Option Addr}(h:Bf w A)(hr:DR B w w'){a:Addr}(e:A=some a):w'.heap[a.block]?=w.heap[a.block]?:=by
 obtain⟨cs,fz,h1⟩:=h a e;rw[h1];refine hr.same _ _ h1 ?_;rintro⟨cs',fz',e2,_⟩
 injection e2 with _ e3 _
 exact absurd e3 (by decide)
theorem aK.dr{B:Nat}{w w':World}{v:Value}{t:T}(h:aK w v t)(hr:DR B w w'):aK w' v t:=h.stays fun _ _ _ _ hy ea=>hy.dr hr ea
theorem ng.dr{B:Nat}{w w':World}{A:Option Addr}{l:List Nat}(h:ng w A l)(hr:DR B w w'):ng w' A l:=h.stays fun a ea hne=>by
 obtain⟨cs,fz,h1⟩:=h.typ a ea hne;rw[h1];refine hr.same _ _ h1 ?_;rintro⟨cs',fz',e2,_⟩
 injection e2 with _ e3 _
 exact absurd e3 (by decide)
theorem xA.dr{B:Nat}{w w':World}{v:Value}{n:Nd}(h:xA w v n)(hr:DR B w w'):xA w' v n:=by
 obtain⟨A,c,e,h1⟩:=h;exact⟨A,c,e,h1.dr hr⟩
theorem dL.dr{B:Nat}{w w':World}{m:Nat}{H:Int->Bool}{nd:Int->Nd}(h:dL w m H nd)(hr:DR B w w'):dL w' m H nd:=by
 obtain⟨es,h1,h2,h3⟩:=h.ex;refine⟨es,h1.stays ?_,h2,fun i hi=>?_⟩
 ·obtain⟨es',clock,h4,_⟩:=h1.own;rw[h4];refine hr.same _ _ h4 ?_;rintro⟨_,_,e,_⟩;cases e
 ·obtain⟨v,e,hv⟩:=h3 i hi;exact⟨v,e,hv.dr hr⟩
theorem eF.dr{B:Nat}{w w':World}{v:Value}{a b M:Int}{x:aJ}(h:eF w v a b M x)(hr:DR B w w'):eF w' v a b M x:=by
 obtain⟨tv,m,e,h1,h2⟩:=h;exact⟨tv,m,e,h1.dr hr,h2.dr hr⟩
def DP(a b M:Int)(y:aJ)(e:Int)(v:Value)(w:World):Prop:=DSh v∧(e=0->eF w v a b M y)
theorem DP.dr{B:Nat}{a b M:Int}{y:aJ}{e:Int}{v:Value}{w w':World}(h:DP a b M y e v w)(hr:DR B w w'):DP a b M y e v w':=⟨h.1,fun k=>(h.2 k).dr hr⟩
theorem ak.wrote{w w':World}{g:Nat}{cs cs':List Value}{T:TypeId}(h:ak w g cs T)(hW:Wrote g w w')(hB:ax w' g cs'):ak w' g cs' T:=by
 obtain⟨o,l,rfl⟩:=hW
 have:∀(l:List Value) (o:Nat) {w:World} {cs:List Value},ak w g cs T->∃c2,ak (dV g w o l) g c2 T:=by
  intro l
  induction l with
  | nil=>exact fun _ _ cs h=>⟨cs,h⟩
  | cons v l ih=>exact fun o _ _ h=>ih (o+1) (h.set o v)
 obtain⟨c2,h2⟩:=this l o h;obtain⟨T',h3⟩:=hB;have e:=h2.symm.trans h3;simp only[Option.some.injEq,Obj.cells.injEq] at e;have e1:c2=cs':=by have:=congrArg Array.toList e.1;simpa using this
 rw[← e1];exact h2
structure VJ(B:Nat)(iA iS:Bool)(vA vC:Value)(w:World):Prop where
 iy:B<=w.heap.size
 ex:iA=true->∃g cs,vA=.pointer (some ⟨g,0,none⟩)∧B<=g∧ak w g cs Ea∧kG cs∧cs.length=5∧(iS=true->vC=.agg cs.toArray)
section
variable {B:Nat}{iA iS:Bool}{vA vC:Value}{w w':World}
theorem VJ.start(h:B<=w.heap.size):VJ B false iS vA vC w:=⟨h,fun e=>nomatch e⟩
theorem VJ.slots{uA uC:Value}(h:VJ B iA iS vA vC w)(e1:uA=vA)(e2:uC=vC):VJ B iA iS uA uC w:=by rw[e1,e2];exact h
theorem VJ.below(h:VJ B iA iS vA vC w)(hb:bz w w'):VJ B iA iS vA vC w':=⟨Nat.le_trans h.iy hb.size,fun e=>by
 obtain⟨g,cs,h1,h2,h3,h4⟩:=h.ex e
 exact⟨g,cs,h1,h2,h3.stays (hb.block _ h3.inside),h4⟩⟩
theorem VJ.told{u uA:Value}(h:VJ B iA iS vA vC w)(eS:iS=false)(e1:uA=vA):VJ B iA iS uA u w:=⟨h.iy,fun e=>by
 obtain⟨g,cs,h1,h2,h3,h4,h5,_⟩:=h.ex e
 exact⟨g,cs,e1.trans h1,h2,h3,h4,h5,fun e=>by rw[eS] at e;cases e⟩⟩
theorem VJ.made{uA uC:Value}(h:VJ B iA iS vA vC w)(eS:iS=false)(e1:uA=.pointer (some ⟨w.heap.size,0,none⟩)):VJ B true iS uA uC (w.alloc (.cells Vf.toArray Ea)):=
 ⟨Nat.le_trans h.iy (by simp),fun _=>⟨w.heap.size,_,e1,h.iy,ak.new w Vf Ea,by unfold kG;simp,rfl,fun e=>by rw[eS] at e;cases e⟩⟩
theorem VJ.put{cs':List Value}{g:Nat}{cs:List Value}(h:VJ B iA iS vA vC w)(e1:vA=.pointer (some ⟨g,0,none⟩))(hg:B<=g)(hb:ak w g cs Ea)(hc:kG cs)(hW:Wrote g w w')(hB:ax w' g cs')(h2:kG cs')(hl:cs'.length=5)(ev:vC=.agg cs'.toArray):VJ B iA true vA vC w'∧DR B w w':=
 ⟨⟨by rw[hW.size];exact h.iy,fun _=>⟨g,cs',e1,hg,hb.wrote hW hB,h2,hl,fun _=>ev⟩⟩,DR.wrote hb hc hW hg⟩
end
def FN(w:World)(g:Nat)(a b M:Int)(x:aJ):Prop:=∃A c m,ak w g (Vb a b M A x.t.length c m) Ea∧aK w (.slice A x.t.length c) x.t∧dL w m (has x.t) x.nd
theorem FN.below{w w':World}{g:Nat}{a b M:Int}{x:aJ}(h:FN w g a b M x)(hb:bz w w'):FN w' g a b M x:=by
 obtain⟨A,c,m,h1,h2,h3⟩:=h;exact⟨A,c,m,h1.stays (hb.block _ h1.inside),h2.below hb,h3.below hb⟩
theorem eF.ex{w:World}{v:Value}{a b M:Int}{x:aJ}(h:eF w v a b M x):∃A c m,v=.agg (Vb a b M A x.t.length c m).toArray∧aK w (.slice A x.t.length c) x.t∧dL w m (has x.t) x.nd:=by
 obtain⟨tv,m,rfl,⟨A,c,rfl,h1⟩,h2⟩:=h;exact⟨A,c,m,rfl,⟨A,c,rfl,h1⟩,h2⟩
theorem FN.doc{w:World}{a b M:Int}{x:aJ}{A:Option Addr}{c m:Nat}(h1:aK w (.slice A x.t.length c) x.t)(h2:dL w m (has x.t) x.nd):eF w (.agg (Vb a b M A x.t.length c m).toArray) a b M x:=⟨_,m,rfl,h1,h2⟩
theorem a1j(a b M:Int)(A:Option Addr)(n c:Nat)(m:Option Nat):kG [.int .i64 a,.int .i64 b,.int .i64 M,.slice A n c,.map m]:=by unfold kG;simp
theorem eF.a2I{w:World}{v:Value}{a b M:Int}{x y:aJ}(h:eF w v a b M x)(h1:NU y x):eF w v a b M y:=h.like h1.1 h1.2
def iO.fB(q:iO):List Value:=q.o.fB q.A q.c
theorem iO.EW(q:iO):q.fB.length=24:=rfl
structure yt(w:World)(A:Option Addr)(l:List iO):Prop where
 row:aS 24 iO.fB w A l
 px:∀q∈l,ng w q.A q.o.lk.l
theorem yt.below{w w':World}{A:Option Addr}{l:List iO}(h:yt w A l)(hb:bz w w'):yt w' A l:=⟨aS.below h.row hb,fun q hq=>(h.px q hq).below hb⟩
theorem yt.dr{B:Nat}{w w':World}{A:Option Addr}{l:List iO}(h:yt w A l)(hr:DR B w w'):yt w' A l:=by
 refine⟨fun hn=>?_,fun q hq=>(h.px q hq).dr hr⟩;obtain⟨b,off,e,hc⟩:=h.row hn;refine⟨b,off,e,fun j hj i v hv=>?_⟩;have h0:=hc 0 hn 20 (.int .u32 ((l[0]).o.lk.p:Nat)) rfl;have hlt:=World.block_lt_of_cell? w ⟨b,_,none⟩ h0;simp only at hlt;have h2:w.heap[b]?=some w.heap[b]:=Array.getElem?_eq_getElem hlt
 have h4:=hr.same _ _ h2 (by
  rintro⟨cs,fz,e2,hp⟩;unfold World.cell? at h0;rw[h2,e2] at h0;simp only at h0;have h3:cs[off+0*24+20]?=some (.int .u32 ((l[0]).o.lk.p:Nat)):=by simpa using h0
  exact hp _ (List.mem_of_getElem? (by rw[Array.getElem?_toList];exact h3)) _ rfl)
 exact(World.cell?_of_block (a:=⟨b,_,none⟩) (h4.trans h2.symm)).trans (hc j hj i v hv)
end
end Go.Proofs.YtekdoeilpheklaaGreat
