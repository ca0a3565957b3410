import Derived.Test.YthmegninhpihkaaGreatWFlY
set_option maxHeartbeats 16000000
set_option maxRecDepth 100000
open Go.Proofs.Tryz
namespace Go.Proofs.YthmegninhpihkaaGreat
section
open Go.RowKit fF fO aF Go.Maps
theorem LJ{k W H:Int}{p:Nat}{iw ih:Int}{l:List Nat}(h:y8 k W H p iw ih l=0) :
  (k=0∧W=0∧H=0∧p=0∧iw=0∧ih=0∧l=[])∨(k=1∧iw=0∧ih=0∧l=[])∨(k=2∧W=0∧H=0∧p=0∧nV iw ih l.length=true):=by
 have hF:∀b,Wh b=0->b=true:=fun b hb=>by
  cases b with
  |true=>rfl
  |false=>cases hb
 have a0H:xe W H p=false->W=0∧H=0∧p=0:=fun h=>Decidable.not_not.1 (of_decide_eq_false h)
 have a3z:uX iw ih l=false->iw=0∧ih=0∧l=[]:=fun h=>by
  unfold uX Zj at h
  simpa using h
 unfold y8 at h;by_cases k0:k=0
 ·rw[if_pos k0]at h;have:=hF _ h;rw[Bool.and_eq_true,Bool.not_eq_true',Bool.not_eq_true']at this;obtain⟨a1,a2,a3⟩:=a0H this.1;obtain⟨b1,b2,b3⟩:=a3z this.2;exact .inl ⟨k0,a1,a2,a3,b1,b2,b3⟩
 ·rw[if_neg k0]at h;by_cases k1:k=1
  ·rw[if_pos k1]at h;by_cases s:dS W H=true
   ·rw[if_pos s]at h;have:=hF _ h;rw[Bool.and_eq_true,Bool.not_eq_true']at this;obtain⟨b1,b2,b3⟩:=a3z this.2;exact .inr (.inl ⟨k1,b1,b2,b3⟩)
   ·rw[if_neg s]at h;cases h
  ·rw[if_neg k1]at h;by_cases k2:k=2
   ·rw[if_pos k2]at h;have:=hF _ h;rw[Bool.and_eq_true,Bool.not_eq_true']at this;obtain⟨a1,a2,a3⟩:=a0H this.2;refine .inr (.inr ⟨k2,a1,a2,a3,?_⟩);have h2:=this.1;unfold nY at h2;rw[Bool.and_eq_true,decide_eq_true_eq,decide_eq_true_eq]at h2;have h3:=h2.2;unfold chk at h3;by_cases s:dS iw ih=true
    ·rw[if_pos s]at h3;by_cases t:nV iw ih l.length=true
     ·exact t
     ·rw[if_neg t]at h3;cases h3
    ·rw[if_neg s]at h3;cases h3
   ·rw[if_neg k2]at h;cases h
theorem Y6{k W H:Int}{p:Nat}{iw ih:Int}{l:List Nat}(h:y8 k W H p iw ih l=0):xw k W iw=ER k W iw∧xw k H ih=ER k H ih:=by
 unfold xw ER;rcases LJ h with ⟨rfl,rfl,rfl,-⟩|⟨rfl,-⟩|⟨rfl,-⟩<;>exact⟨rfl,rfl⟩
theorem a5O{c:Cl}{i:Nat}{v:Value}(h:c.b.cs[i]?=some v):(Cl.cs c)[i]?=some v:=by
 have e:Cl.cs c=c.b.cs++c.r.Eo:=rfl;rw[e,List.getElem?_append_left (List.getElem?_eq_some_iff.1 h).1];exact h
theorem BA(b:Mp)(x y:Int)(w:World)(hb:b.right=true)(hx:-32768<=x∧x<=32767)(hy:-32768<=y∧y<=32767) :
  Calls prog 19 #[.agg b.cs.toArray,.int .i64 x,.int .i64 y] w (aX (.tuple #[.int .i64 (uF b x y).1,.int .i64 (uF b x y).2]) w):=by
 have hok:=xA hb hx hy;have HF:=Hd (fun w=>U3 b (qH x y) w hok);obtain⟨⟨p1,p2⟩,p3,p4⟩:=I4 hok;have H1:=Hd (fun w=>BC (b.from_ (qH x y)).x w (by omega) (by omega));have H2:=Hd (fun w=>BC (b.from_ (qH x y)).y w (by omega) (by omega));unfold uF;unfold qH at HF H1 H2 ⊢;simp only at HF H1 H2 ⊢
 obtain⟨zx,hzx⟩:∃z,x*65536=z:=⟨_,rfl⟩
 obtain⟨zy,hzy⟩:∃z,y*65536=z:=⟨_,rfl⟩
 rw[hzx,hzy]at HF H1 H2 ⊢;generalize (b.from_ ⟨zx+32768,zy+32768⟩)=pt at*;have v1:IntKind.i64.wrap zx=zx:=IntWalk.i64_in _ (by omega);have v2:IntKind.i64.wrap (zx+32768)=zx+32768:=IntWalk.i64_in _ (by omega);have v3:IntKind.i64.wrap zy=zy:=IntWalk.i64_in _ (by omega);have v4:IntKind.i64.wrap (zy+32768)=zy+32768:=IntWalk.i64_in _ (by omega);have u1:wrap64 zx=zx:=IntWalk.wrap64_in _ (by omega);have u2:wrap64 (zx+32768)=zx+32768:=IntWalk.wrap64_in _ (by omega);have u3:wrap64 zy=zy:=IntWalk.wrap64_in _ (by omega)
 have u4:wrap64 (zy+32768)=zy+32768:=IntWalk.wrap64_in _ (by omega);have HB0:Hid (bz w (w.alloc (.cells b.cs.toArray 38))):=bR.alloc nR _;have lg:Hid (aA (w.alloc (.cells b.cs.toArray 38)) w.heap.size b.cs):=az w b.cs _;clear p1 p2 p3 p4 hok hb hx hy;go_enter func19,ntmps19
 go_upto_region 1 with(fail)
 generalize (w.alloc (.cells b.cs.toArray 38))=w0 at*;go_wp2_with (first|(with_reducible refine gL ?_;first|(refine wt 38 0 rfl rfl rfl lg.o (b.cs) rfl underlying38 rfl ?_)));refine(HF.o w0).mono ?_;rintro e w1 ⟨rfl,hb1⟩;have HB1:=Hd (HB0.o.trans (hb1.mono HB0.o.size));clear hb1 v1 v2 v3 v4 u1 u2 u3 u4 hzx hzy HF HB0 lg;go_wp2_with (fail);refine(H1.o w1).mono ?_;rintro e w2 ⟨rfl,rfl⟩;go_wp2_with (fail);refine(H2.o w1).mono ?_;rintro e w2 ⟨rfl,rfl⟩;go_wp2_with (fail);go_ret2;exact⟨rfl,HB1.o⟩
theorem O9(r:Bx)(x y:Int)(w:World) :
  Calls prog 31 #[.agg r.Eo.toArray,.int .i64 x,.int .i64 y] w (aX (.bool (r.has x y)) w):=by
 have HR:Hid (r.has x y=(decide (r.a<=x)&&(decide (r.b<=y)&&(decide (x<r.c)&&decide (y<r.d))))):=by
  show _=_;unfold Bx.has;cases decide (r.a<=x)<;>cases decide (r.b<=y)<;>cases decide (x<r.c)<;>cases decide (y<r.d)<;>rfl
 obtain⟨ra,rb,rc,rd⟩:=r;unfold Bx.Eo;simp only at HR ⊢;generalize Bx.has ⟨ra,rb,rc,rd⟩ x y=R at*;have HB0:Hid (bz w (w.alloc (.cells (Vm ra rb rc rd).toArray 40))):=bR.alloc nR _;have lg:Hid (aA (w.alloc (.cells (Vm ra rb rc rd).toArray 40)) w.heap.size (Vm ra rb rc rd)):=az w (Vm ra rb rc rd) _;go_enter func31,ntmps31
 go_upto_region 1 with(fail)
 generalize (w.alloc (.cells (Vm ra rb rc rd).toArray 40))=w0 at*;have c0:=lg.o.c 0 rfl;have c1:=lg.o.c 1 rfl;have c2:=lg.o.c 2 rfl;have c3:=lg.o.c 3 rfl;have i0:=lg.o.inside;by_cases h0:ra<=x
 ·have t0:decide (ra<=x)=true:=decide_eq_true h0;rw[t0]at HR;clear h0;by_cases h1:rb<=y
  ·have t1:decide (rb<=y)=true:=decide_eq_true h1;rw[t1]at HR;clear h1;by_cases h2:x<rc
   ·have t2:decide (x<rc)=true:=decide_eq_true h2;rw[t2]at HR;clear h2;by_cases h3:y<rd
    ·have t3:decide (y<rd)=true:=decide_eq_true h3;rw[t3]at HR;clear h3;go_wp2_with (fail);go_ret;exact⟨by rw[HR.o];rfl,HB0.o⟩
    ·have t3:decide (y<rd)=false:=decide_eq_false h3;rw[t3]at HR;clear h3;go_wp2_with (fail);go_ret;exact⟨by rw[HR.o];rfl,HB0.o⟩
   ·have t2:decide (x<rc)=false:=decide_eq_false h2;rw[t2]at HR;clear h2;go_wp2_with (fail);go_ret;exact⟨by rw[HR.o];rfl,HB0.o⟩
  ·have t1:decide (rb<=y)=false:=decide_eq_false h1;rw[t1]at HR;clear h1;go_wp2_with (fail);go_ret;exact⟨by rw[HR.o];rfl,HB0.o⟩
 ·have t0:decide (ra<=x)=false:=decide_eq_false h0;rw[t0]at HR;clear h0;go_wp2_with (fail);go_ret;exact⟨by rw[HR.o];rfl,HB0.o⟩
theorem RF(q:DI)(x y:Int)(w:World)(hr:aU 10 Cl.cs w q.Ac q.it.c)(hc:∀c∈q.it.c,c.b.right=true)(hn:q.it.c.length<=2000)(hx:-32768<=x∧x<=32767)(hy:-32768<=y∧y<=32767) :
  Calls prog 32 #[.agg q.cs.toArray,.int .i64 x,.int .i64 y] w (aX (.bool (q.it.free x y)) w):=by
 have HR:=Hd hr;have HC:=Hd hc;have HN:=Hd hn;have HXX:=Hd (And.intro hx hy);have HFE:Hid (q.it.free x y=q.it.c.all fun c=>c.has x y):=rfl;have HB0:Hid (bz w (w.alloc (.cells q.cs.toArray 48))):=bR.alloc nR _;have lg:Hid (aA (w.alloc (.cells q.cs.toArray 48)) w.heap.size q.cs):=az w q.cs _;clear hr hc hn hx hy;go_enter func32,ntmps32
 go_upto_region 1 with(fail)
 generalize (w.alloc (.cells q.cs.toArray 48))=w0 at*;go_wp2_with (fail)
 go_loopw [7] (fun i wr=>∃k:Nat,k<=q.it.c.length∧i=.int .i64 k∧Hid ((q.it.c.take k).all (fun c=>c.has x y)=true)∧Hid (bz w0 wr)) (fun i _=>q.it.c.length - (intOf i).toNat)
 case atStart=>exact⟨0,Nat.zero_le _,rfl,by show _=_;simp,bR⟩
 case round=>
  obtain⟨k,hk,rfl,HA,lX⟩:=hrel;generalize wr=wS at*;have X6:Hid (aA wS w.heap.size q.cs):=lg.o.below' lX.o;have Ua:=Hd (HB0.o.trans (lX.o.mono HB0.o.size));have c13:=X6.o.c 13 rfl;have i0:=X6.o.inside;have hnb:((q.it.c.length:Nat):Int)<=2000:=by have:=HN.o;omega
  by_cases hlt:k<q.it.c.length
  ·have t1:decide (k<q.it.c.length)=true:=by simpa using hlt
   have dV:=Hd hlt
   obtain⟨b2,o2,e2,hc2⟩:=(aU.below HR.o Ua.o) (Nat.lt_of_le_of_lt (Nat.zero_le k) hlt)
   have E2:=Hd e2;rw[e2]at c13
   obtain⟨u,hu⟩:∃u,u=q.it.c[k]'hlt:=⟨_,rfl⟩
   have zF:Hid (wS.rangeAt b2 (o2+k*10) u.b.cs):=by
    rw[hu];exact fun i v hv=>hc2 k hlt i v (a5O hv)
   have HRR:Hid (wS.rangeAt b2 (o2+k*10+6) u.r.Eo):=by
    rw[hu]
    exact fun i v hv=>by
     have h1:=hc2 k hlt (6+i) v (by unfold Cl.cs;rw[Nat.add_comm];exact hv);rw[←Nat.add_assoc]at h1;exact h1
   have HUB:Hid (u.b.right=true):=by rw[hu];exact HC.o _ (List.getElem_mem hlt)
   have qQ:Hid ((q.it.c.take (k+1)).all (fun c=>c.has x y)=u.has x y):=by
    show _=_;rw[hu,List.take_succ_eq_append_getElem hlt,List.all_append,HA.o];simp
   have HUH:Hid (u.has x y=u.r.has (uF u.b x y).1 (uF u.b x y).2):=rfl
   have uh:Hid (u.has x y=false->q.it.free x y=false):=fun h=>by
    rw[HFE.o,List.all_eq_false];exact⟨u,by rw[hu];exact List.getElem_mem hlt,by rw[h];simp⟩
   have i2:b2<wS.heap.size:=World.block_lt_of_cell? wS ⟨b2,_,none⟩ (zF.o 0 (.int .i64 u.b.a) rfl);have Yi:=Hd (BA u.b x y wS HUB.o HXX.o.1 HXX.o.2);have hkb:(k:Int)<=2000:=by omega
   clear e2 hc2 hu hlt hk;go_wp2_with (((with_reducible refine gL ?_);refine lF 38 _ rfl rfl _ _ rfl (u.b.cs) zF.o _ underlying38 rfl ag ?_));refine Yi.o.mono ?_;rintro e w1 ⟨rfl,hb1⟩;have HB1:=Hd hb1;have a18:=Hd (UD HRR.o hb1);have lW:=Hd (X6.o.below' hb1);have HI:=Hd (O9 u.r (uF u.b x y).1 (uF u.b x y).2);rw[←HUH.o]at HI;clear hb1 c13 i0 i2 zF HRR Yi X6;have c13:=lW.o.c 13 rfl;have i0:=lW.o.inside;have i2:b2<w1.heap.size:=World.block_lt_of_cell? w1 ⟨b2,_,none⟩ (a18.o 0 (.int .i64 u.r.a) rfl);rw[E2.o]at c13
   have hlt:=dV.o;go_wp2_with (((with_reducible refine gL ?_);refine lF 40 _ rfl rfl _ _ rfl (u.r.Eo) a18.o _ underlying40 rfl ag ?_));refine(HI.o w1).mono ?_;rintro e w2 ⟨rfl,hb2⟩;have HB2:Hid (bz w0 w2):=lX.o.trans ((HB1.o.trans (hb2.mono HB1.o.size)).mono lX.o.size);clear hb2 c13 i0 i2 a18 HI;by_cases hh:u.has x y=true
   ·rw[hh]at qQ ⊢;go_wp2_with (fail)
    go_roundw
    case rel=>exact⟨k+1,dV.o,by go_num,qQ.o,HB2.o⟩
    case measure=>have:=dV.o;simp[intOf];omega
   ·have hh2:u.has x y=false:=by simpa using hh
    have HNN:=Hd (uh.o hh2);rw[hh2];clear hh hh2;go_wp2_with (fail);go_ret;exact⟨by rw[HNN.o];rfl,HB0.o.trans (HB2.o.mono HB0.o.size)⟩
  ·obtain rfl:k=q.it.c.length:=by omega
   have t1:decide (q.it.c.length<q.it.c.length)=false:=by simp
   rw[List.take_length]at HA;clear hlt hk;go_wp2_with (fail);go_ret;exact⟨by rw[HFE.o,HA.o];rfl,Ua.o⟩
theorem WY(a b:Int)(w:World):(Instr.build 40 #[(0,.int .i64 0),(1,.int .i64 0),(2,.int .i64 a),(3,.int .i64 b)]).run prog w=.ok (.agg (Bx.Eo ⟨0,0,a,b⟩).toArray) w:=by kernel_rfl
theorem YX(a b u v:Int):(Bx.nrm ⟨0,0,a,b⟩).has u v=Bx.has ⟨0,0,a,b⟩ u v:=by
 unfold Bx.nrm;split
 ·rename_i h
  have h2:Bx.has ⟨0,0,a,b⟩ u v=false:=by
   unfold Bx.emp at h;unfold Bx.has;simp only[Bool.or_eq_true,decide_eq_true_eq]at h;rcases h with h|h
   ·by_cases h1:0<=u
    ·rw[show decide (u<a)=false from decide_eq_false (by omega)];simp
    ·rw[show decide (0<=u)=false from decide_eq_false h1];rfl
   ·by_cases h1:0<=v
    ·rw[show decide (v<b)=false from decide_eq_false (by omega)];simp
    ·rw[show decide (0<=v)=false from decide_eq_false h1];simp
  rw[h2];unfold Bx.has Bx.o;by_cases h1:0<=u
  ·rw[show decide (u<0)=false from decide_eq_false (by omega)];simp
  ·rw[show decide ((0:Int)<=u)=false from decide_eq_false h1];rfl
 ·rfl
theorem WI(q:DI)(x y:Int)(w:World)(hd:xX w q)(hok:q.it.Ok)(hx:-32768<=x∧x<=32767)(hy:-32768<=y∧y<=32767) :
  Calls prog 12 #[.agg q.cs.toArray,.int .i64 x,.int .i64 y] w (aX (.bool (q.it.covers x y)) w):=by
 have HR:=Hd hd.1.row;have HPX:=Hd hd.2.1.row;have XY:=Hd hd.2.2;have dW:=Hd hok;have HXX:=Hd (And.intro hx hy);have HB0:Hid (bz w (w.alloc (.cells q.cs.toArray 48))):=bR.alloc nR _;have lg:Hid (aA (w.alloc (.cells q.cs.toArray 48)) w.heap.size q.cs):=az w q.cs _;have HF:=Hd (fun W (hb:bz w W)=>RF q x y W (aU.below HR.o hb) hok.c hok.few hx hy)
 have Ti:Hid (q.it.covers x y=(Bx.has ⟨0,0,xw q.n.lk.k q.n.lk.W q.n.lk.iw,xw q.n.lk.k q.n.lk.H q.n.lk.ih⟩ (uF q.it.b x y).1 (uF q.it.b x y).2&&q.it.free x y)):=by
  have h1:=Y6 hok.lk;rw[←hd.2.2]at h1;show _=_;unfold It.covers Cl.has Lk.sz;rw[h1.1,h1.2,YX,hd.2.2]
 have HS:=Hd (fun w=>Rq q.n.m q.n.op q.n.hi q.n.cl q.n.r q.n.lk.k q.n.lk.W q.n.lk.H q.n.lk.p q.n.lk.iw q.n.lk.ih q.A q.n.lk.l.length q.c w);generalize xw q.n.lk.k q.n.lk.W q.n.lk.iw=sw at*;generalize xw q.n.lk.k q.n.lk.H q.n.lk.ih=sh at*;clear hd hok hx hy;go_enter func12,ntmps12
 go_upto_region 1 with(fail)
 generalize (w.alloc (.cells q.cs.toArray 48))=w0 at*;have i0:=lg.o.inside;go_wp2_with (first|(with_reducible refine gL ?_;first|(refine wt 38 7 rfl rfl rfl lg.o (q.it.b.cs) rfl underlying38 rfl ?_)));refine(BA q.it.b x y w0 dW.o.b HXX.o.1 HXX.o.2).mono ?_;rintro e w1 ⟨rfl,hb1⟩;have HB1:=Hd (HB0.o.trans (hb1.mono HB0.o.size));have lW:=Hd (lg.o.below' hb1);clear hb1 i0 HB0 lg;have i0:=lW.o.inside;go_wp2_with (first|(with_reducible refine gL ?_;first|(refine wt 46 15 rfl rfl rfl lW.o (q.n.cs q.A q.c) rfl underlying46 rfl ?_)))
 refine(HS.o w1).mono ?_;rintro e w2 ⟨rfl,hb2⟩;have HB2:=Hd (HB1.o.trans (hb2.mono HB1.o.size));have dh:=Hd (lW.o.below' hb2);clear hb2 i0 HB1 lW;go_wp2_with (((with_reducible refine gU ?_);refine dw _ _ rfl rfl (by simp[go_sem]) (WY sw sh _) ?_));refine(O9 ⟨0,0,sw,sh⟩ (uF q.it.b x y).1 (uF q.it.b x y).2 w2).mono ?_;rintro e w3 ⟨rfl,hb3⟩;have HB3:=Hd (HB2.o.trans (hb3.mono HB2.o.size));have dO:=Hd (dh.o.below' hb3);clear hb3 HB2 dh;by_cases hh:Bx.has ⟨0,0,sw,sh⟩ (uF q.it.b x y).1 (uF q.it.b x y).2=true
 ·rw[hh]at Ti ⊢;clear hh;go_wp2_with (first|(with_reducible refine gL ?_;first|(refine wt 48 0 rfl rfl rfl dO.o (q.cs) rfl underlying48 rfl ?_)));refine(HF.o w3 HB3.o).mono ?_;rintro e w4 ⟨rfl,hb4⟩;have HB4:=Hd (HB3.o.trans (hb4.mono HB3.o.size));clear hb4;go_wp2_with (fail);go_ret;exact⟨by rw[Ti.o,Bool.true_and];rfl,HB4.o⟩
 ·have hh2:Bx.has ⟨0,0,sw,sh⟩ (uF q.it.b x y).1 (uF q.it.b x y).2=false:=by simpa using hh
  rw[hh2]at Ti ⊢;clear hh hh2;go_wp2_with (fail);go_ret;exact⟨by rw[Ti.o];rfl,HB3.o⟩
end
section
open Go.RowKit fF fO aF Go.Maps
def Yo(x:aJ)(w:World)(v:Value):Prop:=∃A c l,v=.slice A (l:List ja).length c∧aU 22 ja.cs w A l∧(∀q∈l,qO w q∧q.it.Ok)∧l.map (·.it)=items x
theorem Yo.below{x:aJ}{w w':World}{v:Value}(h:Yo x w v)(hb:bz w w'):Yo x w' v:=by
 obtain⟨A,c,l,h1,h2,h3,h4⟩:=h;exact⟨A,c,l,h1,aU.below h2 hb,fun q hq=>⟨(h3 q hq).1.below hb,(h3 q hq).2⟩,h4⟩
def JD(x:aJ)(w:World)(v:Value):Prop:=∃A c l,v=.slice A (l:List DI).length c∧aU 35 DI.cs w A l∧(∀q∈l,xX w q)∧l.map (·.it)=items x
theorem xX.below{w w':World}{q:DI}(h:xX w q)(hb:bz w w'):xX w' q:=h.dq (DQ.below hb nR)
theorem JD.below{x:aJ}{w w':World}{v:Value}(h:JD x w v)(hb:bz w w'):JD x w' v:=by
 obtain⟨A,c,l,h1,h2,h3,h4⟩:=h;exact⟨A,c,l,h1,aU.below h2 hb,fun q hq=>(h3 q hq).below hb,h4⟩
end
section
open Go.RowKit fF fO aF Go.Maps
structure SV(B:Nat)(w w':World):Prop where
 bel:Below B w w'
 same:∀k,(∃j κ n,w.cell? ⟨k,j,none⟩=some (.int κ n))->w'.heap[k]?=w.heap[k]?
theorem SV.refl(B:Nat)(w:World):SV B w w:=⟨bR,fun _ _=>rfl⟩
theorem SV.trans{B:Nat}{w w1 w2:World}(h:SV B w w1)(k:SV B w1 w2):SV B w w2:=⟨h.bel.trans k.bel,fun j hj=>by
 have h1:=h.same j hj;refine(k.same j ?_).trans h1;obtain⟨i,κ,n,hc⟩:=hj;refine⟨i,κ,n,?_⟩;unfold World.cell? at hc ⊢;rw[h1]
 exact hc⟩
theorem SV.below{B:Nat}{w w':World}(hb:bz w w')(hB:B<=w.heap.size):SV B w w':=⟨hb.mono hB,fun k ⟨_,_,_,hc⟩=>hb.block k (World.block_lt_of_cell? w _ hc)⟩
theorem SV.put{B g:Nat}{w:World}{A:Option Addr}{n c:Nat}(hb:aA w g [.slice A n c])(hg:B<=g)(v:Value):SV B w (w.setCell ⟨g,0,none⟩ v):=⟨dB bR hg,fun k ⟨j,κ,n,hc⟩=>heap_setCell_other _ _ _ _ fun e=>by
 have e:k=g:=e;subst e;rw[hb.cell]at hc;cases j with
 |zero=>cases hc
 |succ j=>cases hc⟩
theorem Yo.shape{x:aJ}{w:World}{v:Value}(h:Yo x w v):∃A n c,v=.slice A n c:=by
 obtain⟨A,c,l,h1,-⟩:=h;exact⟨_,_,_,h1⟩
theorem JD.shape{x:aJ}{w:World}{v:Value}(h:JD x w v):∃A n c,v=.slice A n c:=by
 obtain⟨A,c,l,h1,-⟩:=h;exact⟨_,_,_,h1⟩
structure OJ(B:Nat)(T:TypeId)(iA iS:Bool)(vA vC:Value)(w:World):Prop where
 gX:B<=w.heap.size
 ex:iA=true->∃g,vA=.pointer (some ⟨g,0,none⟩)∧B<=g∧au w g [bif iS then vC else .slice none 0 0] T
section
variable {B:Nat}{T T2:TypeId}{iA iS:Bool}{vA vC uA uC:Value}{w w':World}
theorem OJ.slots(h:OJ B T iA iS vA vC w)(e1:uA=vA)(e2:uC=vC):OJ B T iA iS uA uC w:=by rw[e1,e2];exact h
theorem OJ.below(h:OJ B T iA iS vA vC w)(hb:bz w w'):OJ B T iA iS vA vC w':=⟨Nat.le_trans h.gX hb.size,fun e=>by
 obtain⟨g,h1,h2,h3⟩:=h.ex e
 exact⟨g,h1,h2,h3.stays (hb.block _ h3.inside)⟩⟩
theorem OJ.told(h:OJ B T iA iS vA vC w)(eS:iS=false)(e1:uA=vA):OJ B T iA iS uA uC w:=by
 rw[e1]
 exact⟨h.gX,fun e=>by
  obtain⟨g,h1,h2,h3⟩:=h.ex e;rw[eS]at h3 ⊢
  exact⟨g,h1,h2,h3⟩⟩
theorem OJ.made(h:OJ B T iA iS vA vC w)(eS:iS=false)(e1:uA=.pointer (some ⟨w.heap.size,0,none⟩)):OJ B T true iS uA uC (w.alloc (.cells #[.slice none 0 0] T)):=
 ⟨Nat.le_trans h.gX (by simp),fun _=>⟨w.heap.size,e1,h.gX,by rw[eS];exact au.new w [.slice none 0 0] T⟩⟩
theorem OJ.put{g:Nat}{v9:Value}(h:OJ B T iA iS vA vC w)(e1:vA=.pointer (some ⟨g,0,none⟩))(hg:B<=g)(hb:au w g [.slice none 0 0] T)(e2:uC=vC)(ev:vC=v9)(e3:uA=vA):OJ B T iA true uA uC (w.setCell ⟨g,0,none⟩ v9):=by
 rw[e2,e3,←ev];exact⟨by simpa[World.setCell]using h.gX,fun _=>⟨g,e1,hg,hb.set 0 vC⟩⟩
theorem OJ.other{g:Nat}{cs:List Value}{v:Value}(h:OJ B T iA iS vA vC w)(hb:au w g cs T2)(hT:T2≠T):OJ B T iA iS vA vC (w.setCell ⟨g,0,none⟩ v):=⟨by simpa[World.setCell]using h.gX,fun e=>by
 obtain⟨g2,h1,h2,h3⟩:=h.ex e;refine⟨g2,h1,h2,h3.stays (heap_setCell_other _ _ _ _ fun e2=>?_)⟩;have e2:g2=g:=e2;subst e2;unfold au at h3 hb;rw[h3]at hb
 injection hb with hb
 injection hb with _ hb _
 exact hT hb.symm⟩
end
end
section
open Go.RowKit aF yl Go.Shelf
attribute [local go_sem] Oper.semAt_some
theorem KN{r:Option Nat}{P:Program}{ops:Array Oper}{rest:List Oper}{o:Oper}{a:Act}{Q:Exit->Act->World->Prop}{w:World}(hd:∀c,o.op≠.defer c)(hgd:Region.wanted o (yielded ops a.tmps)=true)
  (h:o.wp P a w (wpListIn { Fence.wide with round:=r } 0 P ops Q rest) Q):wpListIn { Fence.wide with round:=r } 0 P ops Q (o::rest) a w:=by
 unfold wpListIn;rw[if_pos hgd];refine⟨fun _ _=>trivial,?_⟩;unfold Oper.wp at h;rw[show({ Fence.wide with round:=r }:Fence).round=r from rfl,Oper.semAt_eq _ _ _ hd];generalize (execOp a.eval o).run P w=x at*;cases x with
 |ok y w'=>
  cases y<;>simp only[Oper.upon,Oper.uponIn]at h ⊢<;>first
   |exact h
   |exact⟨nofun,callsIn_wide.2 h⟩
   |exact⟨nofun,fun c cs _=>let ⟨v,w',r,s⟩:=h c cs;⟨v,w',r,stepsIn_wide.2 s⟩⟩
 |halt y w'=>cases y<;>simp only[Oper.upon,Oper.uponIn]at h ⊢<;>exact h
def Df(l:List Int):Bool:=l.all fun n=>decide (-16384<=n)&&decide (n<=16383)
theorem YT{l:List Int}{k:Nat}(h:k<l.length)(hb:l[k] < -16384∨16383<l[k]):Df l=false:=by
 unfold Df;rw[List.all_eq_false];exact⟨_,List.getElem_mem h,by rcases hb with hb|hb<;>simp<;>omega⟩
theorem UQ{l:List Int}{k:Nat}(h:k<l.length)(ha:Df (l.take k)=true)(hb:-16384<=l[k]∧l[k]<=16383):Df (l.take (k+1))=true:=by
 unfold Df at*;rw[List.take_succ_eq_append_getElem h,List.all_append,ha];simp[hb.1,hb.2]
theorem Y4(l:List Int)(A:Option Addr)(c:Nat)(w:World)(hr:Row eI w A l)(hl:l.length<=1000):Calls prog 62 #[.slice A l.length c] w (aX (.bool (Df l)) w):=by
 have HR:=Hd hr;have HL:=Hd hl;clear hr hl;go_enter func62,ntmps62;go_wp2_with (fail)
 go_loopw [7] (fun i wr=>∃k:Nat,k<=l.length∧i=.int .i64 k∧Hid (Df (l.take k)=true)∧Hid (bz w wr)) (fun i _=>l.length - (intOf i).toNat)
 case atStart=>exact⟨0,Nat.zero_le _,rfl,by show _=_;simp[Df],bR⟩
 case round=>
  obtain⟨k,hk,rfl,HA,HB⟩:=hrel;generalize wr=wj at*;have hlb:(l.length:Int)<=1000:=by have:=HL.o;omega
  by_cases hlt:k<l.length
  ·have t1:decide (k<l.length)=true:=by simpa using hlt
   obtain⟨b,o,rA,kc⟩:=(HR.o.below HB.o).at_ hlt;have HBD:=Hd (YT hlt);have KF:=Hd (UQ hlt HA.o);have dV:=Hd hlt;unfold eI at kc;generalize l[k]=n at*;subst rA;by_cases h1:n < -16384
   ·have t2:decide (n < -16384)=true:=decide_eq_true h1;have HX:=Hd (HBD.o (.inl h1));clear h1;go_wp2_with (fail);go_ret;exact⟨by rw[HX.o];rfl,HB.o⟩
   ·have t2:decide (n < -16384)=false:=decide_eq_false h1;by_cases h2:16383<n
    ·have t3:decide (16383<n)=true:=decide_eq_true h2;have HX:=Hd (HBD.o (.inr h2));clear h1 h2;go_wp2_with (fail);go_ret;exact⟨by rw[HX.o];rfl,HB.o⟩
    ·have t3:decide (16383<n)=false:=decide_eq_false h2;have HX:=Hd (KF.o ⟨by omega,by omega⟩);clear h1 h2;go_wp2_with (fail)
     go_roundw
     case rel=>exact⟨k+1,dV.o,by go_num,HX.o,HB.o⟩
     case measure=>have:=dV.o;simp[intOf];omega
  ·obtain rfl:k=l.length:=by omega
   have t1:decide (l.length<l.length)=false:=by simp
   rw[List.take_length]at HA;clear hlt hk;go_wp2_with (fail);go_ret;exact⟨by rw[HA.o];rfl,HB.o⟩
theorem Na(A:Option Addr)(n c:Nat)(w:World):Calls prog 63 #[.slice A n c] w fun e w'=>e=.returned (.func (.func 86) #[] #[.pointer (some ⟨w.heap.size,0,none⟩)])∧w'=w.alloc (.cells #[.slice A n c] jY):=by
 go_enter func63,ntmps63;go_wp2_with (fail);go_ret;exact⟨rfl,rfl⟩
structure vS(bx:Nat)(A:Option Addr)(c:Nat)(l:List ja)(W:World):Prop where
 box:W.cell? ⟨bx,0,none⟩=some (.slice A l.length c)
 row:aU 22 ja.cs W A l
def pM(l:List ja):List (Array Value):=(List.range l.length).map fun j=>#[.int .i64 ((l.length:Int) - 1 - (j:Nat)),.agg ((l.map ja.cs).getD (l.length - 1 - j) []).toArray]
theorem kH(l:List ja):(pM l).length=l.length:=by simp[pM]
theorem Eu(l:List ja){j:Nat}(hj:j<(pM l).length):(pM l)[j]=#[.int .i64 ((l.length:Int) - 1 - (j:Nat)),.agg ((l.map ja.cs).getD (l.length - 1 - j) []).toArray]:=by simp[pM]
theorem MZ{bx:Nat}{A:Option Addr}{c:Nat}{l:List ja}{W:World}(hl:l.length<=100000)(h:vS bx A c l W) :
  vK prog 86 #[.pointer (some ⟨bx,0,none⟩)] (pM l) (fun _=>Eq) (fun A' B=>vS bx A c l A'->vS bx A c l B) W:=by
 intro lp J Jx _ _ hY h0;have HY:=Hd hY;have HL:=Hd hl;have c0:=h.box;have HB:=Hd h;clear hY hl h;refine(callsIn_wide (n:=0)).1 (callsIn_of_wp func86 rfl trivial ?_ rfl);simp only[ntmps86,List.size_toArray,List.length_cons,List.length_nil,Nat.reduceAdd,Nat.reduceSub,Array.replicate_succ,Array.replicate_zero,List.push_toArray,List.append_toArray,List.nil_append,List.cons_append];have hlb:(l.length:Int)<=100000:=by have:=HL.o;omega
 gi_wp2_with (fail)
 gi_loopw [3] (fun x wr=>∃j:Nat,j<=l.length∧x=.int .i64 ((l.length:Int) - 1 - (j:Nat))∧Hid (J j wr)∧Hid (vS bx A c l wr)) (fun x _=>(intOf x+1).toNat)
 case atStart=>exact⟨0,Nat.zero_le _,by simp,h0,HB⟩
 case round=>
  obtain⟨j,hj,rfl,HJ,HK⟩:=hrel;by_cases hlt:j<l.length
  ·have hlt':j<(pM l).length:=by rw[kH];exact hlt
   obtain⟨fn,tmps,assign,body,hy,hR⟩:=HY.o j hlt' wr HJ.o;rw[Eu]at hy
   obtain⟨m,hm⟩:=aB (l.length - 1 - j)
   have e:(l.length:Int) - 1 - (j:Nat)=(m:Nat):=by omega
   have hml:m<l.length:=by omega
   have e2:((m:Nat):Int) - 1=(l.length:Int) - 1 - ((j+1:Nat):Int):=by omega
   obtain⟨g,o,rA,hc⟩:=HK.o.row (Nat.lt_of_le_of_lt (Nat.zero_le m) hml);rw[hm,List.getD_eq_getElem?_getD,List.getElem?_map,List.getElem?_eq_getElem hml,Option.map_some,Option.getD_some]at hy;have oh:Hid (wr.rangeAt g (o+m*22) (l[m].cs)):=fun i v hv=>hc m hml i v hv;have cb:=HK.o.box;subst rA;rw[e]at hy ⊢;generalize l[m]=q at*;have i2:g<wr.heap.size:=World.block_lt_of_cell? wr ⟨g,_,none⟩ (oh.o 0 (.int .i64 q.it.i) rfl);have hmb:((m:Nat):Int)<=100000:=by omega
   have HE2:=Hd e2;have HM:=Hd hm;have HR:=Hd hR;clear e e2 hm hR hc
   gi_wp2_with ((with_reducible show wpListIn _ _ _ _ _ (Oper.mk _ (Op.load 167 _) _ _ _ _::_) _ _);refine KN (r:=none) (fun _ e=>nomatch e) rfl (wp_load_mid 167 _ rfl g (o+m*22) (by simp[go_sem]) q.cs _ oh.o underlying167 rfl ag ?_))
   refine⟨rfl,HR.o.mono ?_⟩;rintro e W3 ⟨-,(⟨rfl,hJ3,hk3⟩|⟨rfl,hJx3⟩)⟩
   ·have HB3:Hid (vS bx (some ⟨g,o,none⟩) c l W3):=hk3 HK.o;have vO:=Hd hJ3;clear hJ3 hk3 HJ HK oh
    gi_wp2_with (fail)
    go_roundw
    case rel=>exact⟨j+1,by omega,by rw[←HE2.o],vO,HB3⟩
    case measure=>simp[intOf]
   ·have vO:=Hd hJx3;clear hJx3 HJ HK oh
    gi_wp2_with (fail)
    refine bodyPost_ret (results_none rfl _ _ _) rfl ?_;exact⟨⟨_,rfl⟩,.inr ⟨j+1,by rw[kH];omega,vO.o⟩⟩
  ·have e:(l.length:Int) - 1 - (j:Nat)=-1:=by omega
   obtain rfl:j=l.length:=by omega
   have HJ2:Hid (J (pM l).length wr):=by rw[kH];exact HJ
   rw[e];clear e HJ HK
   gi_wp2_with (fail)
   go_end0
   exact⟨⟨_,rfl⟩,.inl HJ2.o⟩
end
section
open Go.RowKit aF yl Go.Shelf
attribute [local go_sem] Oper.semAt_some
theorem Pv{n:Nat}{A B:World}(hb:bz A B):Bk n A B:=⟨hb.os,hb.tape,hb.output,hb.size,fun k hk=>.inl (hb.block k hk)⟩
def Kw(sb:Nat)(A B:World):Prop:=A.heap.size<=B.heap.size∧∀v,A.cell? ⟨sb,0,none⟩=some v ->
 (∃v',B.cell? ⟨sb,0,none⟩=some v'∧(v'.ownBlock=v.ownBlock∨∃g,v'.ownBlock=some g∧A.heap.size<=g))∧∀a u,A.cell? a=some u->a.block≠sb->v.ownBlock≠some a.block->B.cell? a=some u
theorem Kw.trans{sb:Nat}{A B C:World}(h:Kw sb A B)(k:Kw sb B C):Kw sb A C:=⟨Nat.le_trans h.1 k.1,fun v hv=>by
 obtain⟨⟨v1,hv1,h1⟩,h2⟩:=h.2 v hv;obtain⟨⟨v2,hv2,k1⟩,k2⟩:=k.2 v1 hv1;refine⟨⟨v2,hv2,?_⟩,fun a u ha hne ho=>k2 a u (h2 a u ha hne ho) hne fun e=>?_⟩
 ·rcases k1 with e|⟨g,e,hg⟩
  ·rw[e];exact h1
  ·exact .inr ⟨g,e,Nat.le_trans h.1 hg⟩
 ·have hlt:=World.block_lt_of_cell? A a ha;rcases h1 with e1|⟨g,e1,hg⟩
  ·exact ho (e1 ▸ e)
  ·rw[e1]at e;have:=Option.some.inj e
   omega⟩
theorem Kw.bk{sb B:Nat}{A A':World}(h:Bk B A A'):Kw sb A A':=⟨h.size,fun v hv=>⟨⟨v,eQ h hv,.inl rfl⟩,fun _ _ ha _ _=>eQ h ha⟩⟩
structure xH(sb:Nat)(w0 W:World):Prop where
 size:w0.heap.size<=W.heap.size
 keep:∀a u,w0.cell? a=some u->a.block≠sb->W.cell? a=some u
 var:∃v,W.cell? ⟨sb,0,none⟩=some v∧∀g,v.ownBlock=some g->w0.heap.size<=g
theorem xH.bk{sb B:Nat}{w0 A A':World}(h:xH sb w0 A)(hb:Bk B A A'):xH sb w0 A':=⟨Nat.le_trans h.size hb.size,fun a u ha hne=>eQ hb (h.keep a u ha hne),by
 obtain⟨v,hv,ho⟩:=h.var
 exact⟨v,eQ hb hv,ho⟩⟩
theorem xH.next{sb:Nat}{w0 A A':World}(h:xH sb w0 A)(hk:Kw sb A A'):xH sb w0 A':=by
 obtain⟨v,hv,ho⟩:=h.var;obtain⟨⟨v',hv',h1⟩,h2⟩:=hk.2 v hv;refine⟨Nat.le_trans h.size hk.1,fun a u ha hne=>h2 a u (h.keep a u ha hne) hne fun e=>?_,v',hv',fun g e=>?_⟩
 ·have:=World.block_lt_of_cell? w0 a ha;have:=ho _ e;omega
 ·rcases h1 with e1|⟨g',e1,hg⟩
  ·exact ho g (e1 ▸ e)
  ·rw[e1]at e;have:=Option.some.inj e;have:=h.size;omega
theorem zW{α:Type}{k sb:Nat}{enc:α->List Value}{w w':World}{A:Option Addr}{l:List α}(h:aU k enc w A l)(hk:xH sb w w')(hne:∀a,A=some a->l≠[]->a.block≠sb):aU k enc w' A l:=fun hn=>by
 obtain⟨b,o,e,hc⟩:=h hn;have hl:l≠[]:=fun e=>by rw[e]at hn;exact absurd hn (by simp)
 exact⟨b,o,e,fun j hj i u hu=>hk.keep _ _ (hc j hj i u hu) (hne ⟨b,o,none⟩ e hl)⟩
theorem Qk{α:Type}{sb:Nat}{enc:α->Value}{w w':World}{A:Option Addr}{l:List α}(h:Row enc w A l)(hk:xH sb w w')(hne:∀a,A=some a->l≠[]->a.block≠sb):Row enc w' A l:=fun hn=>by
 obtain⟨b,o,e,hc⟩:=h hn;have hl:l≠[]:=fun e=>by rw[e]at hn;exact absurd hn (by simp)
 exact⟨b,o,e,fun j hj=>hk.keep _ _ (hc j hj) (hne ⟨b,o,none⟩ e hl)⟩
def hits(L:List It)(X Y:Int):List Int:=if Df [X,Y]=true then (L.reverse.filter (·.covers X Y)).map (·.i) else []
def qE(l:List Int):List (Array Value):=l.map fun i=>#[.int .i64 i]
theorem OY{l:List Int}{k:Nat}(h:k<(qE l).length):(qE l)[k]=#[.int .i64 (l.getD k 0)]:=by
 unfold qE at h ⊢;rw[List.length_map]at h;rw[List.getElem_map,List.getD_eq_getElem?_getD,List.getElem?_eq_getElem h];rfl
theorem Ul{L:List It}{p:It->Bool}{j:Nat}(hj:j<L.length)(hp:p L[j]=true):∃h:((L.take j).filter p).length<(qE ((L.filter p).map (·.i))).length,(qE ((L.filter p).map (·.i)))[((L.take j).filter p).length]=#[.int .i64 L[j].i]:=by
 have h:=Ri p hj hp;obtain⟨h1,h2⟩:=List.getElem?_eq_some_iff.1 h;refine⟨by simpa[qE]using h1,?_⟩;simp only[qE,List.getElem_map];rw[h2]
theorem Eh(g:Nat)(X Y:Int)(w:World):Calls prog 34 #[.pointer (some ⟨g,0,none⟩),.int .i64 X,.int .i64 Y] w fun e w'=>e=.returned (.func (.func 61) #[] #[.pointer (some ⟨w.heap.size+1,0,none⟩),.pointer (some ⟨w.heap.size+2,0,none⟩),.pointer (some ⟨w.heap.size,0,none⟩)]) ∧
  w'=((w.alloc (.cells #[.pointer (some ⟨g,0,none⟩)] 25)).alloc (.cells #[.int .i64 X] 3)).alloc (.cells #[.int .i64 Y] 3):=by
 go_enter func34,ntmps34;go_wp2_with (fail);go_ret;exact⟨rfl,rfl⟩
structure BP(W:World)(bx b9 bp g:Nat)(X Y:Int):Prop where
 x:W.cell? ⟨bx,0,none⟩=some (.int .i64 X)
 y:W.cell? ⟨b9,0,none⟩=some (.int .i64 Y)
 p:W.cell? ⟨bp,0,none⟩=some (.pointer (some ⟨g,0,none⟩))
theorem BP.keep{W W':World}{bx b9 bp g:Nat}{X Y:Int}(h:BP W bx b9 bp g X Y)(hk:∀a u,W.cell? a=some u->a.block=bx∨a.block=b9∨a.block=bp->W'.cell? a=some u):BP W' bx b9 bp g X Y:=
 ⟨hk _ _ h.x (.inl rfl),hk _ _ h.y (.inr (.inl rfl)),hk _ _ h.p (.inr (.inr rfl))⟩
theorem BP.below{W W':World}{bx b9 bp g:Nat}{X Y:Int}(h:BP W bx b9 bp g X Y)(hb:bz W W'):BP W' bx b9 bp g X Y:=h.keep fun _ _ ha _=>(hb.cell (World.block_lt_of_cell? W _ ha)).trans ha
def EM:TypeId:=58
theorem Ef{W:World}{g b m:Nat}{s:Sh}{Z:ZZ}{x:aJ}{bx b9 bp sb:Nat}{X Y:Int}{v0:Value}(h:ax W g b m s Z x)(hx:mV x)(hn:x.t.length<=900)(ht:BP W bx b9 bp g X Y)(hv:W.cell? ⟨sb,0,none⟩=some v0)(ho:v0.ownBlock=none)(hne:bx≠sb∧b9≠sb∧bp≠sb) :
  vK prog 61 (Vu bx b9 bp).toArray (qE (hits (items x) X Y)) (fun n=>Bk n) (Kw sb) W:=by
 intro lp J Jx hJR a3H hY h0;have HY:=Hd hY;have HJR:=Hd hJR;have a4Q:=Hd a3H;have HS:=Hd h;have HX:=Hd hx;have HN:=Hd hn;have HT:=Hd ht;have HV:=Hd (And.intro hv (And.intro ho hne));have Cm:=Hd h0;clear hJR a3H hY h0 h hx hn ht hv ho hne;refine bV func61 rfl ?_;simp only[ntmps61,List.size_toArray,List.length_cons,List.length_nil,Nat.reduceAdd,Nat.reduceSub,Array.replicate_succ,Array.replicate_zero,List.push_toArray,List.append_toArray,List.nil_append,List.cons_append]
 have HB0:Hid (Below W.heap.size W (W.alloc (.cells #[.func (.yield lp) #[] #[]] EM))):=bR.alloc nR _;have HF0:Hid (au (W.alloc (.cells #[.func (.yield lp) #[] #[]] EM)) W.heap.size [.func (.yield lp) #[] #[]] EM):=au.new W [.func (.yield lp) #[] #[]] _;unfold EM at HB0 HF0
 go_upto_region 1 with(fail)
 generalize (W.alloc (.cells #[.func (.yield lp) #[] #[]] 58))=w0 at*
 obtain⟨fb,hfb⟩:=aB W.heap.size
 have HFB:=Hd hfb;rw[hfb]at HF0 ⊢;clear hfb;obtain⟨cx,cy,cp⟩:=HT.o.below HB0.o;have ix:=World.block_lt_of_cell? w0 _ cx;have iy:=World.block_lt_of_cell? w0 _ cy
 have KH:=Hd (Y4 [X,Y] (some ⟨w0.heap.size,0,none⟩) 2 (w0.alloc (.cells #[.int .i64 X,.int .i64 Y] 3)) (fun _=>⟨_,0,rfl,fun j hj=>by
  have hb:=(az w0 [.int .i64 X,.int .i64 Y] 3).cell
  match j,hj with
  |0,_=>exact hb 0
  |1,_=>exact hb 1⟩) (by simp))
 go_wp2_with (fail);refine KH.o.mono ?_;rintro e w1 ⟨rfl,hb1⟩;have HB1:Hid (bz w0 w1):=(bR.alloc nR _).trans (hb1.mono (by simp));clear hb1 KH cx cy cp ix iy;have N7:Hid (Below W.heap.size W w1):=HB0.o.trans (HB1.o.mono HB0.o.size);have HF1:=Hd (HF0.o.stays (HB1.o.block _ HF0.o.inside));obtain⟨cx,cy,cp⟩:=HT.o.below N7.o;have ip:=World.block_lt_of_cell? w1 _ cp;have HHE:Hid (hits (items x) X Y=if Df [X,Y]=true then ((items x).reverse.filter (·.covers X Y)).map (·.i) else []):=rfl
 have HOX:Hid (Df [X,Y]=true->(-32768<=X∧X<=32767)∧-32768<=Y∧Y<=32767):=fun h=>by
  simp[Df]at h;omega
 generalize Df [X,Y]=ok at*;cases ok with
 |false=>
  have HE:Hid (hits (items x) X Y=[]):=HHE.o;clear cx cy cp ip;go_wp2_with (fail)
  refine dI W.heap.size trivial fun w' hb=>⟨_,results_none rfl _ _ _,⟨_,rfl⟩,.inl ?_⟩
  rw[HE.o];exact HJR.o _ _ _ (HJR.o _ _ _ Cm.o (Pv N7.o)) hb
 |true=>
  have HE:Hid (hits (items x) X Y=((items x).reverse.filter (·.covers X Y)).map (·.i)):=HHE.o;have HXY:=Hd (HOX.o rfl);have HLI:=Hd (VD (HS.o.below N7.o) HX.o HN.o);clear HHE cx cy HB0 HB1 HF0 HOX;go_wp2_with (fail);refine HLI.o.mono ?_;unfold Xr;rintro e w2 ⟨A,c,l,rfl,hrow,hqs,hmap,hrb,hb2⟩;have a0k:Hid (Below W.heap.size W w2):=N7.o.trans (hb2.mono N7.o.size);have HF2:=Hd (HF1.o.stays (hb2.block _ HF1.o.inside));have Cf:=Hd hrow;have HQS:=Hd hqs;have Gt:=Hd hmap;have zF:=Hd hrb;have HSW:Hid (W.heap.size<=w1.heap.size):=N7.o.size
  clear hrow hqs hmap hrb hb2 HLI cp ip HF1;go_wp2_with (fail);refine(Na A l.length c w2).mono ?_;rintro e w3 ⟨rfl,hw3⟩;have hb3:Below w2.heap.size w2 w3:=by rw[hw3];exact bR.alloc nR _
  have zH:Hid (vS w2.heap.size A c l w3):=⟨by rw[hw3];exact(au.new w2 [.slice A l.length c] _).blk.cell 0,aU.below Cf.o hb3⟩
  have CB:Hid (Below W.heap.size W w3):=a0k.o.trans (hb3.mono a0k.o.size);have HF3:=Hd (HF2.o.stays (hb3.block _ HF2.o.inside))
  have oq:Hid (∀q∈l,qO w3 q∧q.it.Ok):=fun q hq=>⟨(HQS.o q hq).1.below hb3,(HQS.o q hq).2.1⟩
  obtain⟨bb,hbb⟩:=aB w2.heap.size
  rw[hbb]at zH ⊢;have CE:Hid (sb<bb):=by have:=World.block_lt_of_cell? W _ HV.o.1;have:=a0k.o.size;show _<_;simp at*;omega
  have HVS:Hid (sb<W.heap.size):=World.block_lt_of_cell? W _ HV.o.1
  have HIL:Hid (l.length<=1000):=by
   have h1:=congrArg List.length Gt.o;rw[List.length_map]at h1;have h2:(items x).length<=(aF.walk x.t 0).length:=List.length_filterMap_le _ _;have h3:=oz HX.o.ok;have h4:=HN.o;show _<=_;omega
  clear hw3 hb3 hbb HF2;generalize hL:(items x).reverse=L at*
  have mX:Hid (L.length=l.length):=by
   show _=_;rw[←hL,List.length_reverse,←Gt.o,List.length_map]
  have HLQ:Hid (∀j (h:j<l.length),∃h2:j<L.length,(l[l.length - 1 - j]'(by omega)).it=L[j]):=fun j h=>by
   refine⟨by rw[mX.o];exact h,?_⟩;subst hL;rw[List.getElem_reverse];have h1:=Gt.o;have h2:(items x).length=l.length:=by rw[←h1,List.length_map]
   have h3:(items x)[(items x).length - 1 - j]?=some (l[l.length - 1 - j]'(by omega)).it:=by
    rw[←h1,List.length_map,List.getElem?_map,List.getElem?_eq_getElem (by omega)];rfl
   exact(Option.some.inj ((List.getElem?_eq_getElem (by omega)).symm.trans h3)).symm
  have lg:Hid (xH sb w3 w3):=⟨nR,fun _ _ h _=>h,v0,(CB.o.cell HVS.o).trans HV.o.1,fun g e=>by rw[HV.o.2.1]at e;cases e⟩
  have HTO:Hid (∀W',xH sb w3 W'->BP W' bx b9 bp g X Y∧vS bb A c l W'∧(∀q∈l,qO W' q)∧W'.cell? ⟨fb,0,none⟩=some (.func (.yield lp) #[] #[])):=fun W' hk=>by
   have hn:=HV.o.2.2;refine⟨(HT.o.below CB.o).keep fun a u ha hb=>hk.keep a u ha ?_,⟨hk.keep _ _ zH.o.box ?_,zW zH.o.row hk fun a ea hl=>?_⟩,fun q hq=>⟨zW (oq.o q hq).1.yC hk fun a ea hl=>?_,Qk (oq.o q hq).1.px hk fun a ea hl=>?_⟩,hk.keep _ _ (HF3.o.blk.cell 0) ?_⟩
   ·rcases hb with e|e|e<;>rw[e]
    ·exact hn.1
    ·exact hn.2.1
    ·exact hn.2.2
   ·have:=CE.o;show bb≠sb;omega
   ·have:=zF.o a ea hl;have:=HSW.o;have:=HVS.o;omega
   ·have:=(HQS.o q hq).2.2.1 a ea hl;have:=HSW.o;have:=HVS.o;omega
   ·have:=(HQS.o q hq).2.2.2 a ea hl;have:=HSW.o;have:=HVS.o;omega
   ·have:=HFB.o;have:=HVS.o;show fb≠sb;omega
  have vO:Hid (J 0 w3):=HJR.o _ _ _ Cm.o (Pv CB.o);have rW:Hid (W.heap.size<=w3.heap.size):=CB.o.size;have ZT:Hid (∀q∈l,q.it.Ok):=fun q hq=>(HQS.o q hq).2.1;have HY:=HY.o;rw[HE.o]at HY
  have ZC:Hid (∀j it (w:World),L[j]?=some it->it.covers X Y=true->J ((L.take j).filter (·.covers X Y)).length w->YieldAt Fence.wide 0 prog lp #[.int .i64 it.i] w fun e B=>TN W.heap.size w B∧((e=.returned (.bool true)∧J (((L.take j).filter (·.covers X Y)).length+1) B∧Kw sb w B)∨(e=.returned (.bool false)∧Jx (((L.take j).filter (·.covers X Y)).length+1) B))):=fun j it w hj hc hJ=>by
   obtain⟨h,rfl⟩:=List.getElem?_eq_some_iff.1 hj;obtain⟨h1,h2⟩:=Ul (p:=(·.covers X Y)) h hc;have h3:=HY _ h1 w hJ;rw[h2]at h3;exact h3
  have Dx:Hid (∀j it,L[j]?=some it->it.covers X Y=true->((L.take j).filter (·.covers X Y)).length+1<=(qE (hits (items x) X Y)).length):=fun j it hj hc=>by
   obtain⟨h,rfl⟩:=List.getElem?_eq_some_iff.1 hj;rw[HE.o];exact(Ul (p:=(·.covers X Y)) h hc).1
  have HLS:Hid (∀j it,L[j]?=some it->((L.take (j+1)).filter (·.covers X Y)).length=((L.take j).filter (·.covers X Y)).length+if it.covers X Y=true then 1 else 0):=fun j it hj=>by
   obtain⟨h,rfl⟩:=List.getElem?_eq_some_iff.1 hj;exact I8 _ h
  clear HY HS HX HN HT HV Cm Cf HQS Gt zF N7 a0k CB oq zH HF3 CE HFB hL HSW;go_wp2_with (fail)
  refine Dy (gf:=86) (lb:=#[.pointer (some ⟨bb,0,none⟩)]) rfl (enters_of func86 ag rfl) (es:=pM l) (R:=fun _=>Eq) (Kp:=fun A' B=>vS bb A c l A'->vS bb A c l B)
   (fun W1 hb=>MZ (by have:=HIL.o;omega) (HTO.o W1 (lg.o.bk hb)).2.1) (fun h k x=>k (h x)) (fun A' B hb h=>⟨eQ hb h.box,fun hn=>by
    obtain⟨b,o,e,hc⟩:=h.row hn
    exact⟨b,o,e,fun j hj i u hu=>eQ hb (hc j hj i u hu)⟩⟩) (fun n A B e k o _ hk _=>e ▸ hk) (fun e he=>by obtain⟨j,_,rfl⟩:=List.mem_map.1 he;rfl)
   (fun j W'=>xH sb w3 W'∧J ((L.take j).filter (·.covers X Y)).length W') (fun c _ W'=>c=.ret∧∃k,k<=(qE (hits (items x) X Y)).length∧Jx k W') (fun k A B h hr=>?hI) (fun c k A B h hr=>?hIx) ⟨lg.o,vO.o⟩
   (fun j a' W'=>∃g6 v15 v16 q,a'={ tmps:=#[.func (.yield lp) #[] #[],.pointer (some ⟨bx,0,none⟩),.pointer (some ⟨b9,0,none⟩),.pointer (some ⟨bp,0,none⟩),.pointer (some ⟨fb,0,none⟩),undef,.pointer (some ⟨g6,0,none⟩),.int .i64 X,.int .i64 Y,.slice (some ⟨w0.heap.size,0,none⟩) 2 2,.bool true,.bool false,.pointer (some ⟨g,0,none⟩),.slice A l.length c,
    .func (.func 86) #[] #[.pointer (some ⟨bb,0,none⟩)],v15,v16,undef,undef,undef,undef,undef,undef,undef,undef,undef,undef,undef],defers:=[] }∧l[l.length - 1 - j]?=some q∧aA W' g6 q.cs) (fun k a' A B h hb=>?hAs) ?assign ?body ?done ?stop
  case hI=>
   rcases hr with ⟨n,hn,rfl⟩|hb
   ·exact h
   ·exact⟨h.1.bk hb,HJR.o _ _ _ h.2 (hb.mono rW.o)⟩
  case hIx=>
   rcases hr with ⟨n,hn,rfl⟩|hb
   ·exact h
   ·obtain⟨h1,k,hk,h2⟩:=h;exact⟨h1,k,hk,a4Q.o _ _ _ h2 (hb.mono rW.o)⟩
  case hAs=>
   obtain⟨g6,v15,v16,q,e,hq,T,hc⟩:=h;exact⟨g6,v15,v16,q,e,hq,T,hb.keep hc rfl⟩
  case assign=>
   intro l2 j hj W9 KK _ FQ;have hjl:j<l.length:=by rw[kH]at hj;exact hj
   rw[Eu]
   obtain⟨M,hM⟩:=aB (l.length - 1 - j)
   have hml:M<l.length:=by omega
   have hq:=List.getElem?_eq_getElem hml;rw[hM,List.getD_eq_getElem?_getD,List.getElem?_map,hq,Option.map_some,Option.getD_some];rw[hM]at FQ;generalize l[M]=q at*
   have HKK:Hid (∀g6 v15 W',bz W9 W'->aA W' g6 q.cs->KK { tmps:=#[.func (.yield lp) #[] #[],.pointer (some ⟨bx,0,none⟩),.pointer (some ⟨b9,0,none⟩),.pointer (some ⟨bp,0,none⟩),.pointer (some ⟨fb,0,none⟩),undef,.pointer (some ⟨g6,0,none⟩),.int .i64 X,.int .i64 Y,.slice (some ⟨w0.heap.size,0,none⟩) 2 2,.bool true,.bool false,.pointer (some ⟨g,0,none⟩),.slice A l.length c,
    .func (.func 86) #[] #[.pointer (some ⟨bb,0,none⟩)],v15,.agg q.cs.toArray,undef,undef,undef,undef,undef,undef,undef,undef,undef,undef,undef],defers:=[] } W'):=fun g6 v15 W' hb hB=>FQ _ _ hb ⟨g6,v15,_,q,rfl,hq,hB⟩
   clear FQ hq hM hml hjl hj;have Yl:Hid (bz W9 (W9.alloc (.cells Vn.toArray 167))):=bR.alloc nR _;have HZA:Hid (aA (W9.alloc (.cells Vn.toArray 167)) W9.heap.size Vn):=az W9 Vn _
   gi_wp2_with ((with_reducible show wpListIn _ _ _ _ _ (Oper.mk _ (Op.store 167 _ _) _ _ _ _::_) _ _);refine KN (r:=some l2) (fun _ e=>nomatch e) rfl (bW 167 _ _ rfl W9.heap.size 0 (by simp[go_sem]) q.cs (by simp[go_sem]) _ HZA.o (nE rfl) ag (by rfl) ?_);intro W8 hW8 ql)
   exact HKK.o _ _ _ (hW8.below Yl.o nR) ql
  case body=>
   rintro l2 j hj a' Wb ⟨hk,hJ⟩ ⟨g6,v15,v16,q,rfl,hq,hb6⟩;have hjl:j<l.length:=by rw[kH]at hj;exact hj
   obtain⟨hjL,e⟩:=HLQ.o j hjl;obtain⟨hml,hq2⟩:=List.getElem?_eq_some_iff.1 hq;have hmem:q∈l:=hq2 ▸ List.getElem_mem hml;rw[hq2]at e;obtain⟨hT,hBI,hIt,hF⟩:=HTO.o Wb hk;have Ti:=Hd (QS q X Y Wb (hIt q hmem) (ZT.o q hmem) HXY.o.1 HXY.o.2);have cx:=hT.x;have cy:=hT.y;have ix:=World.block_lt_of_cell? Wb _ cx;have iy:=World.block_lt_of_cell? Wb _ cy;have ou:=Hd hb6;have HK:=Hd hk;have HJ:=Hd hJ;have HEQ:Hid (L[j]?=some q.it):=by show _=_;rw[List.getElem?_eq_getElem hjL,←e]
   have KF:=Hd (HLS.o j _ HEQ.o);have HLJ:=Hd (Dx.o j _ HEQ.o);have HYJ:=Hd (fun w=>ZC.o j _ w HEQ.o);clear hT hBI hIt hF hk hJ hb6 hq hml hq2 hmem e hjl hj hjL
   gi_wp2_with ((with_reducible show wpListIn _ _ _ _ _ (Oper.mk _ (Op.load 167 _) _ _ _ _::_) _ _);refine KN (r:=some l2) (fun _ e=>nomatch e) rfl (aN 167 _ rfl g6 0 (by simp[go_sem]) q.cs ou.o q.cs rfl _ underlying167 rfl ag ?_))
   refine⟨trivial,rfl,CallsIn.inRound l2 ((callsIn_wide (n:=0)).2 (Ti.o.mono ?_))⟩;rintro e w9 ⟨rfl,aY⟩;have Tf:Hid (xH sb w3 w9):=HK.o.bk (Pv (n:=0) aY);have HJ9:Hid (J ((L.take j).filter (·.covers X Y)).length w9):=HJR.o _ _ _ HJ.o (Pv aY);have HKB:Hid (TN w3.heap.size Wb w9):=fun k o _ hk _=>(aY.block k (Array.getElem?_eq_some_iff.1 hk).1).trans hk;have c6:=(ou.o.below' aY).c 0 rfl;have i6:=(ou.o.below' aY).inside;have cf:=(HTO.o _ Tf.o).2.2.2;have jf:=World.block_lt_of_cell? w9 _ cf;clear aY cx cy ix iy ou HK HJ Ti;generalize q.it.covers X Y=cv at*
   cases cv with
   |false=>
    have HS2:Hid (((L.take (j+1)).filter (·.covers X Y)).length=((L.take j).filter (·.covers X Y)).length):=by show _=_;rw[KF.o];simp
    clear c6 i6 cf jf
    gi_wp2_with (fail)
    refine⟨fun _ e=>(nomatch e),?_⟩
    gi_wp2_with (fail)
    exact⟨HKB.o,fun _=>(HTO.o _ Tf.o).2.1,Tf.o,HS2.o ▸ HJ9.o⟩
   |true=>
    have HS2:Hid (((L.take (j+1)).filter (·.covers X Y)).length=((L.take j).filter (·.covers X Y)).length+1):=by show _=_;rw[KF.o];simp
    have hY:=HYJ.o w9 rfl HJ9.o;obtain⟨fn,tmps,assign,body,hy,hR⟩:=hY;have HR:=Hd hR;clear hR
    gi_wp2_with (fail)
    refine⟨rfl,(show RoundIn (Fence.wide.inRound l2) 0 _ _ _ _ _ _ _ _ from HR.o).mono ?_⟩;rintro e W3 ⟨hkb,(⟨rfl,hJ3,hk3⟩|⟨rfl,hJx3⟩)⟩
    ·have HZ:Hid (TN w3.heap.size Wb W3∧xH sb w3 W3∧J (((L.take j).filter (·.covers X Y)).length+1) W3):=⟨fun k o hn hk ho=>hkb k o (Nat.le_trans rW.o hn) (HKB.o k o hn hk ho) ho,Tf.o.next hk3,hJ3⟩
     clear hkb hJ3 hk3 hy c6 i6 cf jf
     gi_wp2_with (fail)
     exact⟨HZ.o.1,fun _=>(HTO.o _ HZ.o.2.1).2.1,HZ.o.2.1,HS2.o ▸ HZ.o.2.2⟩
    ·have HZ:Hid (TN w3.heap.size Wb W3∧∃k,k<=(qE (hits (items x) X Y)).length∧Jx k W3):=⟨fun k o hn hk ho=>hkb k o (Nat.le_trans rW.o hn) (HKB.o k o hn hk ho) ho,_,HLJ.o trivial,hJx3⟩
     clear hkb hJx3 hy c6 i6 cf jf
     gi_wp2_with (fail)
     exact⟨HZ.o.1,rfl,HZ.o.2⟩
  case done=>
   rintro D W9 hD ⟨hk,hJ⟩ hd;rw[kH,←mX.o,List.take_length]at hJ;go_wp2_with (fail)
   refine Ea W.heap.size ⟨⟨D,rfl,Nat.le_trans rW.o hD,hd,by simp⟩,trivial⟩ fun w' hb=>⟨_,results_none rfl _ _ _,⟨_,rfl⟩,.inl ?_⟩
   rw[HE.o,qE,List.length_map,List.length_map];exact HJR.o _ _ _ hJ hb
  case stop=>
   rintro D c9 j W9 hD hj ⟨rfl,k,hk,hJx⟩ hd;go_wp2_with (fail)
   exact dI W.heap.size ⟨⟨D,rfl,Nat.le_trans rW.o hD,hd,by simp⟩,trivial⟩ fun w' hb=>⟨_,results_none rfl _ _ _,⟨_,rfl⟩,.inr ⟨k,hk,a4Q.o _ _ _ hJx hb⟩⟩
end
section
open Go.RowKit aF yl Go.Shelf
attribute [local go_sem] Oper.semAt_some
theorem IQ{x:aJ}(X Y:Int)(hx:mV x)(hn:x.t.length<=900):(hits (items x) X Y).length<=1000:=by
 have h2:(items x).length<=(aF.walk x.t 0).length:=List.length_filterMap_le _ _;have h3:=oz hx.ok;unfold hits;split
 ·have:=List.length_filter_le (·.covers X Y) (items x).reverse;rw[List.length_reverse]at this;rw[List.length_map];omega
 ·simp
theorem Nh{W:World}{g b m:Nat}{s:Sh}{Z:ZZ}{x:aJ}{bx b9 bp:Nat}{X Y:Int}(h:ax W g b m s Z x)(hx:mV x)(hn:x.t.length<=900)(ht:BP W bx b9 bp g X Y) :
  Calls prog 60 #[.slice none 0 0,.func (.func 61) #[] (Vu bx b9 bp).toArray] W fun e w'=>∃v,e=.returned v∧aP w' W.heap.size v (hits (items x) X Y)∧Below W.heap.size W w':=by
 have HS:=Hd h;have HX:=Hd hx;have HN:=Hd hn;have HT:=Hd ht
 have CV:Hid (bx≠W.heap.size∧b9≠W.heap.size∧bp≠W.heap.size):=by
  have h1:=World.block_lt_of_cell? W _ ht.x;have h2:=World.block_lt_of_cell? W _ ht.y;have h3:=World.block_lt_of_cell? W _ ht.p;simp only at h1 h2 h3;refine⟨?_,?_,?_⟩<;>omega
 have zG:=Hd (IQ X Y hx hn);clear h hx hn ht;refine bV func60 rfl ?_;simp only[ntmps60,List.size_toArray,List.length_cons,List.length_nil,Nat.reduceAdd,Nat.reduceSub,Array.replicate_succ,Array.replicate_zero,List.push_toArray,List.append_toArray,List.nil_append,List.cons_append];have HB0:Hid (Below W.heap.size W (W.alloc (.cells #[.slice none 0 0] 35))):=bR.alloc nR _;have lg:Hid (au (W.alloc (.cells #[.slice none 0 0] 35)) W.heap.size [.slice none 0 0] bQ):=au.new W [.slice none 0 0] _
 go_upto_region 1 with(fail)
 generalize (W.alloc (.cells #[.slice none 0 0] 35))=w0 at*;have hs0:W.heap.size<w0.heap.size:=lg.o.inside
 obtain⟨sb,hsb⟩:=aB W.heap.size
 have PQ:=Hd hsb;rw[hsb]at lg CV hs0 ⊢;have vV:=Hd hs0;clear hsb hs0;go_wp2_with (fail)
 refine kN (gf:=61) (lb:=(Vu bx b9 bp).toArray) rfl (enters_of func61 ag rfl) (es:=qE (hits (items x) X Y)) (R:=fun n=>Bk n) (Kp:=Kw sb)
  (fun W1 hb=>?hit) Kw.trans (fun A B hb=>Kw.bk hb) (fun n A B h k o hk hA _=>(h.low (Array.getElem?_eq_some_iff.1 hA).1 hk).trans hA)
  (fun e he=>by obtain⟨j,_,rfl⟩:=List.mem_map.1 he;rfl)
  (fun k W'=>Below sb W W'∧w0.heap.size<=W'.heap.size∧∃v,au W' sb [v] bQ∧aP W' w0.heap.size v ((hits (items x) X Y).take k))
  (fun _ _ _=>False) (fun k A B h hr=>?hI) (fun _ _ _ _ h _=>h.elim) ⟨PQ.o ▸ HB0.o,nR,_,lg.o,ak.nil _ _⟩ ?a1 ?assign ?body ?done (fun _ _ _ _ _ _ h _=>h.elim)
 case hit=>
  have hb1:Below W.heap.size W W1:=HB0.o.trans (hb.below HB0.o.size HB0.o.size);exact Ef (HS.o.below hb1) HX.o HN.o (HT.o.below hb1) ((lg.o.bk hb).blk.cell 0) rfl CV.o
 case hI=>
  obtain⟨hk,hs,v,hv,ho⟩:=h;have hb:Bk w0.heap.size A B:=hr.elim (fun⟨n,hn,h⟩=>h.mono hn) id;exact⟨hk.trans (hb.below (Nat.le_of_lt vV.o) (PQ.o ▸ hk.size)),Nat.le_trans hs hb.size,v,hv.bk hb,ak.bk ho hb⟩
 case assign=>
  intro l j hj W9 KK FQ;rw[OY]
  gi_wp2
  exact FQ
 case done=>
  rintro D W9 hD ⟨hk,-,v,hv,ho⟩ hd;rw[show(qE (hits (items x) X Y)).length=(hits (items x) X Y).length from List.length_map _,List.take_length]at ho;have cb:=hv.blk.cell 0;have zb:=hv.inside;simp only[List.getElem?_cons_zero]at cb;have hDw:sb<=D:=Nat.le_trans (Nat.le_of_lt vV.o) hD;have HZ:=Hd (And.intro hk (And.intro ho hd));clear hk hv ho;go_wp2_with (fail)
  refine dI sb ⟨⟨D,rfl,hDw,hd,by simp⟩,trivial⟩ fun w' hb=>⟨_,results_tmp rfl _ _ _,?_⟩
  obtain⟨hk,ho,-⟩:=HZ.o;exact⟨v,rfl,ak.weaken (ak.bk ho hb) (by have:=vV.o;have:=PQ.o;omega),PQ.o ▸ hk.trans (hb.below nR (PQ.o ▸ hk.size))⟩
 case body=>
  rintro l j hj W9 ⟨hk,hsz,v,hv,ho⟩;have hjl:j<(hits (items x) X Y).length:=by unfold qE at hj;simpa using hj
  have htk:(hits (items x) X Y).take (j+1)=(hits (items x) X Y).take j++[(hits (items x) X Y)[j]]:=List.take_succ_eq_append_getElem hjl;rw[List.getElem?_eq_getElem hjl,Option.getD_some];generalize (hits (items x) X Y)[j]=i at*;have hll:((hits (items x) X Y).take j).length<=1000:=by rw[List.length_take];have:=zG.o;omega
  have hbw:bz W9 (W9.alloc (.cells #[.int .i64 i] 3)):=bR.alloc nR _;have hs9:(W9.alloc (.cells #[.int .i64 i] 3)).heap.size=W9.heap.size+1:=by simp
  obtain⟨v',w7,hrun,iV,hgr,hat⟩:=zA (g:=W9.heap.size) (o:=0) (c:=1) (xs:=[i]) (ak.below ho hbw) (fun _=>⟨_,0,rfl,fun k hk=>by
   match k,hk with
   |0,_=>exact(az W9 [.int .i64 i] _).cell 0⟩) (by rw[List.length_singleton];omega) (by omega)
  obtain⟨A3,n3,c3,rfl⟩:=ak.shape ho;obtain⟨A4,n4,c4,hv4⟩:=ak.shape iV;have hob:∀k,(Value.slice A3 n3 c3).ownBlock=some k->w0.heap.size<=k∧k<W9.heap.size:=fun k hk'=>ak.block ho hk';have hsl:=vV.o;have b7:au w7 sb [.slice A3 n3 c3] bQ:=(hv.stays (hbw.block _ hv.inside)).stays (hgr.block _ (by have:=hv.inside;omega) fun e=>by have:=hob _ e.symm;omega);have cb:=hv.blk.cell 0;have zb:=hv.inside;simp only[List.getElem?_cons_zero]at cb
  have V4:∀k,k<W9.heap.size->k≠sb->(Value.slice A3 n3 c3).ownBlock≠some k->(w7.setCell ⟨sb,0,none⟩ v').heap[k]?=W9.heap[k]?:=fun k hk1 hk2 hk3=>(heap_setCell_other _ _ _ _ (show k≠sb from hk2)).trans ((hgr.block _ (by omega) fun e=>hk3 e.symm).trans (hbw.block _ hk1));have h7s:W9.heap.size<=(w7.setCell ⟨sb,0,none⟩ v').heap.size:=by have:=hgr.size;simp[World.setCell];omega
  have HF:Hid (KB W9 (w7.setCell ⟨sb,0,none⟩ v')∧Kw sb W9 (w7.setCell ⟨sb,0,none⟩ v')∧Below sb W (w7.setCell ⟨sb,0,none⟩ v')∧w0.heap.size<=(w7.setCell ⟨sb,0,none⟩ v').heap.size ∧
    ∃v,au (w7.setCell ⟨sb,0,none⟩ v') sb [v] bQ∧aP (w7.setCell ⟨sb,0,none⟩ v') w0.heap.size v ((hits (items x) X Y).take (j+1))):=by
   refine⟨((KB.below hbw).trans (KB.uJ hgr fun k o hk' ho'=>?_)).trans (KB.set (a:=⟨sb,0,none⟩) b7 rfl v'),⟨h7s,fun v1 hv1=>?_⟩,((hk.trans (hbw.mono (by omega))).grown hgr (by omega) fun k e=>?_).setCell nR _,Nat.le_trans hsz h7s,v',b7.set 0 v',?_⟩
   ·obtain⟨cu,hc⟩:=ak.typed ho hk';rw[(hbw.block _ (Array.getElem?_eq_some_iff.1 hc).1).trans hc]at ho';cases ho';rfl
   ·obtain rfl:=Option.some.inj (hv1.symm.trans cb);refine⟨⟨v',(b7.set 0 v').blk.cell 0,?_⟩,fun a u ha hne hno=>?_⟩
    ·rcases hat with e|e
     ·exact .inl e
     ·exact .inr ⟨_,e,by omega⟩
    ·exact(World.cell?_of_block (V4 _ (World.block_lt_of_cell? W9 a ha) hne hno)).trans ha
   ·have:=hob k e;omega
   ·rw[htk];refine ak.stays iV fun k hk'=>heap_setCell_other _ _ _ _ fun(e:k=sb)=>?_;have:=(ak.block iV hk').1;omega
  rw[hv4]at HF hrun;have cb7:=b7.blk.cell 0;have fb7:=b7.blk.free 0;have zb7:=b7.inside;simp only[List.getElem?_cons_zero]at cb7;clear hk hv ho hj hjl htk hll hsz iV hgr hat hv4 hbw hob hs9 b7 V4 h7s hsl
  gi_wp2_with (gi_at_builtin;refine rY rfl _ _ 35 35 35 rfl rfl _ _ _ _ rfl rfl hrun ?_;clear hrun)
  exact HF.o
theorem Ol{W w1:World}{g:Nat}{X Y:Int}(hw:w1=((W.alloc (.cells #[.pointer (some ⟨g,0,none⟩)] 25)).alloc (.cells #[.int .i64 X] 3)).alloc (.cells #[.int .i64 Y] 3)) :
  bz W w1∧BP w1 (W.heap.size+1) (W.heap.size+2) W.heap.size g X Y:=by
 subst hw;refine⟨((bR.alloc nR _).alloc (by simp) _).alloc (by simp;omega) _,?_,?_,?_⟩
 ·exact(((jO (W.alloc _) _ (by simp) [.int .i64 X] _).al _).blk.cell 0)
 ·exact((jO ((W.alloc _).alloc _) _ (by simp) [.int .i64 Y] _).blk.cell 0)
 ·exact((((au.new W [.pointer (some ⟨g,0,none⟩)] _).al _).al _).blk.cell 0)
theorem Jn{W:World}{g b m:Nat}{s:Sh}{Z:ZZ}{x:aJ}{bx b9 bp:Nat}{X Y:Int}(h:ax W g b m s Z x)(hx:mV x)(hn:x.t.length<=900)(ht:BP W bx b9 bp g X Y) :
  Calls prog 33 #[.func (.func 61) #[] (Vu bx b9 bp).toArray] W fun e w'=>∃v,e=.returned v∧aP w' W.heap.size v (hits (items x) X Y)∧bz W w':=by
 have HC:=Hd (Nh h hx hn ht);clear h hx hn ht;go_enter func33,ntmps33;go_wp2_with (fail);refine HC.o.mono ?_;rintro e w2 ⟨v,rfl,ho,hb2⟩;have HZ:=Hd (And.intro ho hb2);clear ho hb2 HC;go_wp2_with (fail);go_ret;exact⟨v,rfl,HZ.o.1,HZ.o.2⟩
theorem JB{W:World}{g b m:Nat}{s:Sh}{Z:ZZ}{x:aJ}(X Y:Int)(h:ax W g b m s Z x)(hx:mV x)(hn:x.t.length<=900) :
  Calls prog 13 #[.pointer (some ⟨g,0,none⟩),.int .i64 X,.int .i64 Y] W fun e w'=>∃v,e=.returned v∧aP w' W.heap.size v (hits (items x) X Y)∧bz W w':=by
 have HS:=Hd h;have HX:=Hd hx;have HN:=Hd hn;clear h hx hn;go_enter func13,ntmps13;go_wp2_with (fail);refine(Eh g X Y W).mono ?_;rintro e w1 ⟨rfl,hw⟩;obtain⟨hb1,ht⟩:=Ol hw;have HB1:=Hd hb1;have HCO:=Hd (Jn (HS.o.below hb1) HX.o HN.o ht);clear hb1 ht hw;go_wp2_with (fail);refine HCO.o.mono ?_;rintro e w2 ⟨v,rfl,ho,hb2⟩;have HZ:=Hd (And.intro ho hb2);clear ho hb2;go_wp2_with (fail);go_ret;exact⟨v,rfl,ak.weaken HZ.o.1 HB1.o.size,HB1.o.trans (HZ.o.2.mono HB1.o.size)⟩
end
end Go.Proofs.YthmegninhpihkaaGreat
