import Derived.Test.YtekdoeilpheklaaGreatWFlY
import Derived.Test.YtekdoeilpheklaaGreatRows
import Derived.ProofKit
import Derived.OpenShut
import Derived.ChangeOld
import Derived.Carry
import Derived.Deep.Fields
set_option maxHeartbeats 16000000
set_option maxRecDepth 100000
open Go.Proofs.Tryz
namespace Go.Proofs.YtekdoeilpheklaaGreat
section
open Go.RowKit fH fV aF Go.Maps
theorem Aw{k W H:Int}{p:Nat}{iw ih:Int}{l:List Nat}(h:uP k W H p iw ih l=0) :
  (k=0∧W=0∧H=0∧p=0∧iw=0∧ih=0∧l=[])∨(k=1∧iw=0∧ih=0∧l=[])∨(k=2∧W=0∧H=0∧p=0∧iD iw ih l.length=true):=by
 have hF:∀b,OO b=0->b=true:=fun b hb=>by
  cases b with
  |true=>rfl
  |false=>cases hb
 have a0F:sZ W H p=false->W=0∧H=0∧p=0:=fun h=>Decidable.not_not.1 (of_decide_eq_false h)
 have a3B:sW iw ih l=false->iw=0∧ih=0∧l=[]:=fun h=>by
  unfold sW TD at h
  simpa using h
 unfold uP at h;by_cases k0:k=0
 ·rw[if_pos k0]at h;have:=hF _ h;rw[Bool.and_eq_true,Bool.not_eq_true',Bool.not_eq_true']at this;obtain⟨a1,a2,a3⟩:=a0F this.1;obtain⟨b1,b2,b3⟩:=a3B this.2;exact .inl ⟨k0,a1,a2,a3,b1,b2,b3⟩
 ·rw[if_neg k0]at h;by_cases k1:k=1
  ·rw[if_pos k1]at h;by_cases s:dR W H=true
   ·rw[if_pos s]at h;have:=hF _ h;rw[Bool.and_eq_true,Bool.not_eq_true']at this;obtain⟨b1,b2,b3⟩:=a3B this.2;exact .inr (.inl ⟨k1,b1,b2,b3⟩)
   ·rw[if_neg s]at h;cases h
  ·rw[if_neg k1]at h;by_cases k2:k=2
   ·rw[if_pos k2]at h;have:=hF _ h;rw[Bool.and_eq_true,Bool.not_eq_true']at this;obtain⟨a1,a2,a3⟩:=a0F this.2;refine .inr (.inr ⟨k2,a1,a2,a3,?_⟩);have h2:=this.1;unfold jE at h2;rw[Bool.and_eq_true,decide_eq_true_eq,decide_eq_true_eq]at h2;have h3:=h2.2;unfold chk at h3;by_cases s:dR iw ih=true
    ·rw[if_pos s]at h3;by_cases t:iD iw ih l.length=true
     ·exact t
     ·rw[if_neg t]at h3;cases h3
    ·rw[if_neg s]at h3;cases h3
   ·rw[if_neg k2]at h;cases h
theorem Ov{k W H:Int}{p:Nat}{iw ih:Int}{l:List Nat}(h:uP k W H p iw ih l=0):ku k W iw=pV k W iw∧ku k H ih=pV k H ih:=by
 unfold ku pV;rcases Aw h with ⟨rfl,rfl,rfl,-⟩|⟨rfl,-⟩|⟨rfl,-⟩<;>exact⟨rfl,rfl⟩
theorem Y2{k W H:Int}{p:Nat}{iw ih:Int}{l:List Nat}(h:uP k W H p iw ih l=0)(x y:Int):dAt k W H p iw ih l x y=uQ k W H p iw ih l x y:=by
 have hs:=Ov h;unfold dAt uQ;rw[hs.1,hs.2];rcases Aw h with ⟨rfl,-⟩|⟨rfl,-⟩|⟨rfl,-⟩
 ·rfl
 ·rfl
 ·rw[if_pos rfl];rfl
theorem Y3{I:It}(h:I.Ok)(x y:Int):uQ I.lk.k I.lk.W I.lk.H I.lk.p I.lk.iw I.lk.ih I.lk.l x y<4294967296:=by
 unfold uQ;split
 ·unfold yf;split
  ·rw[List.getD_eq_getElem?_getD];cases hz:I.lk.l[(y*I.lk.iw+x).toNat]? with
   |none=>decide
   |some z=>exact h.z z (List.mem_of_getElem? hz)
  ·decide
 ·split
  ·exact h.p
  ·decide
theorem Hu{p:P4}(h:p.Bytes){q:Nat}(hq:q<256):(p.times q).Bytes:=⟨BB h.1 hq,BB h.2.1 hq,BB h.2.2.1 hq,BB h.2.2.2 hq⟩
theorem a5L{c:Cl}{i:Nat}{v:Value}(h:c.b.cs[i]?=some v):(Cl.cs c)[i]?=some v:=by
 have e:Cl.cs c=c.b.cs++c.r.yJ:=rfl;rw[e,List.getElem?_append_left (List.getElem?_eq_some_iff.1 h).1];exact h
theorem tC(b:Mp)(x y:Int)(w:World)(hb:b.right=true)(hx:-32768<=x∧x<=32767)(hy:-32768<=y∧y<=32767) :
  Calls prog 39 #[.agg b.cs.toArray,.int .i64 x,.int .i64 y] w (aJ (.tuple #[.int .i64 (rJ b x y).1,.int .i64 (rJ b x y).2]) w):=by
 have hok:=MH hb hx hy;have HF:=Hd (fun w=>UX b (Ei x y) w hok);obtain⟨⟨p1,p2⟩,p3,p4⟩:=AZ hok;have H1:=Hd (fun w=>Bv (b.from_ (Ei x y)).x w (by omega) (by omega));have H2:=Hd (fun w=>Bv (b.from_ (Ei x y)).y w (by omega) (by omega));unfold rJ;unfold Ei at HF H1 H2 ⊢;simp only at HF H1 H2 ⊢
 obtain⟨zx,hzx⟩:∃z,x*65536=z:=⟨_,rfl⟩
 obtain⟨zy,hzy⟩:∃z,y*65536=z:=⟨_,rfl⟩
 rw[hzx,hzy]at HF H1 H2 ⊢;generalize (b.from_ ⟨zx+32768,zy+32768⟩)=pt at*;have v1:IntKind.i64.wrap zx=zx:=IntWalk.i64_in _ (by omega);have v2:IntKind.i64.wrap (zx+32768)=zx+32768:=IntWalk.i64_in _ (by omega);have v3:IntKind.i64.wrap zy=zy:=IntWalk.i64_in _ (by omega);have v4:IntKind.i64.wrap (zy+32768)=zy+32768:=IntWalk.i64_in _ (by omega);have u1:wrap64 zx=zx:=IntWalk.wrap64_in _ (by omega);have u2:wrap64 (zx+32768)=zx+32768:=IntWalk.wrap64_in _ (by omega);have u3:wrap64 zy=zy:=IntWalk.wrap64_in _ (by omega)
 have u4:wrap64 (zy+32768)=zy+32768:=IntWalk.wrap64_in _ (by omega);have HB0:Hid (bz w (w.alloc (.cells b.cs.toArray 54))):=bR.alloc nR _;have kE:Hid (ax (w.alloc (.cells b.cs.toArray 54)) w.heap.size b.cs):=az w b.cs _;clear p1 p2 p3 p4 hok hb hx hy;go_enter func39,ntmps39
 go_upto_region 1 with(fail)
 generalize (w.alloc (.cells b.cs.toArray 54))=w0 at*;go_wp2_with (first|(with_reducible refine gL ?_;first|(refine wt 54 0 rfl rfl rfl kE.o (b.cs) rfl underlying54 rfl ?_)));refine(HF.o w0).mono ?_;rintro e w1 ⟨rfl,hb1⟩;have HB1:=Hd (HB0.o.trans (hb1.mono HB0.o.size));clear hb1 v1 v2 v3 v4 u1 u2 u3 u4 hzx hzy HF HB0 kE;go_wp2_with (fail);refine(H1.o w1).mono ?_;rintro e w2 ⟨rfl,rfl⟩;go_wp2_with (fail);refine(H2.o w1).mono ?_;rintro e w2 ⟨rfl,rfl⟩;go_wp2_with (fail);go_ret2;exact⟨rfl,HB1.o⟩
theorem O0(r:Bx)(x y:Int)(w:World) :
  Calls prog 48 #[.agg r.yJ.toArray,.int .i64 x,.int .i64 y] w (aJ (.bool (r.has x y)) w):=by
 have HR:Hid (r.has x y=(decide (r.a<=x)&&(decide (r.b<=y)&&(decide (x<r.c)&&decide (y<r.d))))):=by
  show _=_;unfold Bx.has;cases decide (r.a<=x)<;>cases decide (r.b<=y)<;>cases decide (x<r.c)<;>cases decide (y<r.d)<;>rfl
 obtain⟨ra,rb,rc,rd⟩:=r;unfold Bx.yJ;simp only at HR ⊢;generalize Bx.has ⟨ra,rb,rc,rd⟩ x y=R at*;have HB0:Hid (bz w (w.alloc (.cells (Vl ra rb rc rd).toArray 56))):=bR.alloc nR _;have kE:Hid (ax (w.alloc (.cells (Vl ra rb rc rd).toArray 56)) w.heap.size (Vl ra rb rc rd)):=az w (Vl ra rb rc rd) _;go_enter func48,ntmps48
 go_upto_region 1 with(fail)
 generalize (w.alloc (.cells (Vl ra rb rc rd).toArray 56))=w0 at*;have c0:=kE.o.c 0 rfl;have c1:=kE.o.c 1 rfl;have c2:=kE.o.c 2 rfl;have c3:=kE.o.c 3 rfl;have i0:=kE.o.inside;by_cases h0:ra<=x
 ·have t0:decide (ra<=x)=true:=decide_eq_true h0;rw[t0]at HR;clear h0;by_cases h1:rb<=y
  ·have t1:decide (rb<=y)=true:=decide_eq_true h1;rw[t1]at HR;clear h1;by_cases h2:x<rc
   ·have t2:decide (x<rc)=true:=decide_eq_true h2;rw[t2]at HR;clear h2;by_cases h3:y<rd
    ·have t3:decide (y<rd)=true:=decide_eq_true h3;rw[t3]at HR;clear h3;go_wp2_with (fail);go_ret;exact⟨by rw[HR.o];rfl,HB0.o⟩
    ·have t3:decide (y<rd)=false:=decide_eq_false h3;rw[t3]at HR;clear h3;go_wp2_with (fail);go_ret;exact⟨by rw[HR.o];rfl,HB0.o⟩
   ·have t2:decide (x<rc)=false:=decide_eq_false h2;rw[t2]at HR;clear h2;go_wp2_with (fail);go_ret;exact⟨by rw[HR.o];rfl,HB0.o⟩
  ·have t1:decide (rb<=y)=false:=decide_eq_false h1;rw[t1]at HR;clear h1;go_wp2_with (fail);go_ret;exact⟨by rw[HR.o];rfl,HB0.o⟩
 ·have t0:decide (ra<=x)=false:=decide_eq_false h0;rw[t0]at HR;clear h0;go_wp2_with (fail);go_ret;exact⟨by rw[HR.o];rfl,HB0.o⟩
theorem Eh(q:DI)(x y:Int)(w:World)(hr:aT 10 Cl.cs w q.Ac q.it.c)(hc:∀c∈q.it.c,c.b.right=true)(hn:q.it.c.length<=2000)(hx:-32768<=x∧x<=32767)(hy:-32768<=y∧y<=32767) :
  Calls prog 38 #[.agg q.cs.toArray,.int .i64 x,.int .i64 y] w (aJ (.bool (q.it.free x y)) w):=by
 have HR:=Hd hr;have HC:=Hd hc;have HN:=Hd hn;have JK:=Hd (And.intro hx hy);have HFE:Hid (q.it.free x y=q.it.c.all fun c=>c.has x y):=rfl;have HB0:Hid (bz w (w.alloc (.cells q.cs.toArray 63))):=bR.alloc nR _;have kE:Hid (ax (w.alloc (.cells q.cs.toArray 63)) w.heap.size q.cs):=az w q.cs _;clear hr hc hn hx hy;go_enter func38,ntmps38
 go_upto_region 1 with(fail)
 generalize (w.alloc (.cells q.cs.toArray 63))=w0 at*;go_wp2_with (fail)
 go_loopw [7] (fun i wr=>∃k:Nat,k<=q.it.c.length∧i=.int .i64 k∧Hid ((q.it.c.take k).all (fun c=>c.has x y)=true)∧Hid (bz w0 wr)) (fun i _=>q.it.c.length - (intOf i).toNat)
 case atStart=>exact⟨0,Nat.zero_le _,rfl,by show _=_;simp,bR⟩
 case round=>
  obtain⟨k,hk,rfl,HA,zC⟩:=hrel;generalize wr=wS at*;have XX:Hid (ax wS w.heap.size q.cs):=kE.o.below' zC.o;have TZ:=Hd (HB0.o.trans (zC.o.mono HB0.o.size));have c13:=XX.o.c 13 rfl;have i0:=XX.o.inside;have hnb:((q.it.c.length:Nat):Int)<=2000:=by have:=HN.o;omega
  by_cases hlt:k<q.it.c.length
  ·have t1:decide (k<q.it.c.length)=true:=by simpa using hlt
   have fC:=Hd hlt
   obtain⟨b2,o2,e2,hc2⟩:=(aT.below HR.o TZ.o) (Nat.lt_of_le_of_lt (Nat.zero_le k) hlt)
   have E2:=Hd e2;rw[e2]at c13
   obtain⟨u,hu⟩:∃u,u=q.it.c[k]'hlt:=⟨_,rfl⟩
   have GY:Hid (wS.rangeAt b2 (o2+k*10) u.b.cs):=by
    rw[hu];exact fun i v hv=>hc2 k hlt i v (a5L hv)
   have HRR:Hid (wS.rangeAt b2 (o2+k*10+6) u.r.yJ):=by
    rw[hu]
    exact fun i v hv=>by
     have h1:=hc2 k hlt (6+i) v (by unfold Cl.cs;rw[Nat.add_comm];exact hv);rw[←Nat.add_assoc]at h1;exact h1
   have HUB:Hid (u.b.right=true):=by rw[hu];exact HC.o _ (List.getElem_mem hlt)
   have qI:Hid ((q.it.c.take (k+1)).all (fun c=>c.has x y)=u.has x y):=by
    show _=_;rw[hu,List.take_succ_eq_append_getElem hlt,List.all_append,HA.o];simp
   have HUH:Hid (u.has x y=u.r.has (rJ u.b x y).1 (rJ u.b x y).2):=rfl
   have uh:Hid (u.has x y=false->q.it.free x y=false):=fun h=>by
    rw[HFE.o,List.all_eq_false];exact⟨u,by rw[hu];exact List.getElem_mem hlt,by rw[h];simp⟩
   have i2:b2<wS.heap.size:=World.block_lt_of_cell? wS ⟨b2,_,none⟩ (GY.o 0 (.int .i64 u.b.a) rfl);have X9:=Hd (tC u.b x y wS HUB.o JK.o.1 JK.o.2);have hkb:(k:Int)<=2000:=by omega
   clear e2 hc2 hu hlt hk;go_wp2_with (((with_reducible refine gL ?_);refine mX 54 _ rfl rfl _ _ rfl (u.b.cs) GY.o _ underlying54 rfl af ?_));refine X9.o.mono ?_;rintro e w1 ⟨rfl,hb1⟩;have HB1:=Hd hb1;have a2a:=Hd (lS HRR.o hb1);have gJ:=Hd (XX.o.below' hb1);have HI:=Hd (O0 u.r (rJ u.b x y).1 (rJ u.b x y).2);rw[←HUH.o]at HI;clear hb1 c13 i0 i2 GY HRR X9 XX;have c13:=gJ.o.c 13 rfl;have i0:=gJ.o.inside;have i2:b2<w1.heap.size:=World.block_lt_of_cell? w1 ⟨b2,_,none⟩ (a2a.o 0 (.int .i64 u.r.a) rfl);rw[E2.o]at c13
   have hlt:=fC.o;go_wp2_with (((with_reducible refine gL ?_);refine mX 56 _ rfl rfl _ _ rfl (u.r.yJ) a2a.o _ underlying56 rfl af ?_));refine(HI.o w1).mono ?_;rintro e w2 ⟨rfl,hb2⟩;have HB2:Hid (bz w0 w2):=zC.o.trans ((HB1.o.trans (hb2.mono HB1.o.size)).mono zC.o.size);clear hb2 c13 i0 i2 a2a HI;by_cases hh:u.has x y=true
   ·rw[hh]at qI ⊢;go_wp2_with (fail)
    go_roundw
    case rel=>exact⟨k+1,fC.o,by go_num,qI.o,HB2.o⟩
    case measure=>have:=fC.o;simp[intOf];omega
   ·have hh2:u.has x y=false:=by simpa using hh
    have HNN:=Hd (uh.o hh2);rw[hh2];clear hh hh2;go_wp2_with (fail);go_ret;exact⟨by rw[HNN.o];rfl,HB0.o.trans (HB2.o.mono HB0.o.size)⟩
  ·obtain rfl:k=q.it.c.length:=by omega
   have t1:decide (q.it.c.length<q.it.c.length)=false:=by simp
   rw[List.take_length]at HA;clear hlt hk;go_wp2_with (fail);go_ret;exact⟨by rw[HFE.o,HA.o];rfl,TZ.o⟩
theorem WY(a b:Int)(w:World):(Instr.build 56 #[(0,.int .i64 0),(1,.int .i64 0),(2,.int .i64 a),(3,.int .i64 b)]).run prog w=.ok (.agg (Bx.yJ ⟨0,0,a,b⟩).toArray) w:=by kernel_rfl
theorem YR(a b u v:Int):(Bx.nrm ⟨0,0,a,b⟩).has u v=Bx.has ⟨0,0,a,b⟩ u v:=by
 unfold Bx.nrm;split
 ·rename_i h
  have h2:Bx.has ⟨0,0,a,b⟩ u v=false:=by
   unfold Bx.emp at h;unfold Bx.has;simp only[Bool.or_eq_true,decide_eq_true_eq]at h;rcases h with h|h
   ·by_cases h1:0<=u
    ·rw[show decide (u<a)=false from decide_eq_false (by omega)];simp
    ·rw[show decide (0<=u)=false from decide_eq_false h1];rfl
   ·by_cases h1:0<=v
    ·rw[show decide (v<b)=false from decide_eq_false (by omega)];simp
    ·rw[show decide (0<=v)=false from decide_eq_false h1];simp
  rw[h2];unfold Bx.has Bx.o;by_cases h1:0<=u
  ·rw[show decide (u<0)=false from decide_eq_false (by omega)];simp
  ·rw[show decide ((0:Int)<=u)=false from decide_eq_false h1];rfl
 ·rfl
theorem WE(q:DI)(x y:Int)(w:World)(hd:vW w q)(hok:q.it.Ok)(hx:-32768<=x∧x<=32767)(hy:-32768<=y∧y<=32767) :
  Calls prog 16 #[.agg q.cs.toArray,.int .i64 x,.int .i64 y] w (aJ (.bool (q.it.covers x y)) w):=by
 have HR:=Hd hd.1.row;have HPX:=Hd hd.2.1.row;have TU:=Hd hd.2.2;have dM:=Hd hok;have JK:=Hd (And.intro hx hy);have HB0:Hid (bz w (w.alloc (.cells q.cs.toArray 63))):=bR.alloc nR _;have kE:Hid (ax (w.alloc (.cells q.cs.toArray 63)) w.heap.size q.cs):=az w q.cs _;have HF:=Hd (fun W (hb:bz w W)=>Eh q x y W (aT.below HR.o hb) hok.c hok.few hx hy)
 have HCV:Hid (q.it.covers x y=(Bx.has ⟨0,0,ku q.n.lk.k q.n.lk.W q.n.lk.iw,ku q.n.lk.k q.n.lk.H q.n.lk.ih⟩ (rJ q.it.b x y).1 (rJ q.it.b x y).2&&q.it.free x y)):=by
  have h1:=Ov hok.lk;rw[←hd.2.2]at h1;show _=_;unfold It.covers Cl.has Lk.sz;rw[h1.1,h1.2,YR,hd.2.2]
 have HS:=Hd (fun w=>Ed q.n.m q.n.op q.n.hi q.n.cl q.n.r q.n.lk.k q.n.lk.W q.n.lk.H q.n.lk.p q.n.lk.iw q.n.lk.ih q.A q.n.lk.l.length q.c w);generalize ku q.n.lk.k q.n.lk.W q.n.lk.iw=sw at*;generalize ku q.n.lk.k q.n.lk.H q.n.lk.ih=sh at*;clear hd hok hx hy;go_enter func16,ntmps16
 go_upto_region 1 with(fail)
 generalize (w.alloc (.cells q.cs.toArray 63))=w0 at*;have i0:=kE.o.inside;go_wp2_with (first|(with_reducible refine gL ?_;first|(refine wt 54 7 rfl rfl rfl kE.o (q.it.b.cs) rfl underlying54 rfl ?_)));refine(tC q.it.b x y w0 dM.o.b JK.o.1 JK.o.2).mono ?_;rintro e w1 ⟨rfl,hb1⟩;have HB1:=Hd (HB0.o.trans (hb1.mono HB0.o.size));have gJ:=Hd (kE.o.below' hb1);clear hb1 i0 HB0 kE;have i0:=gJ.o.inside;go_wp2_with (first|(with_reducible refine gL ?_;first|(refine wt 61 15 rfl rfl rfl gJ.o (q.n.cs q.A q.c) rfl underlying61 rfl ?_)))
 refine(HS.o w1).mono ?_;rintro e w2 ⟨rfl,hb2⟩;have HB2:=Hd (HB1.o.trans (hb2.mono HB1.o.size));have bQ:=Hd (gJ.o.below' hb2);clear hb2 i0 HB1 gJ;go_wp2_with (((with_reducible refine gU ?_);refine dH _ _ rfl rfl (by simp[go_sem]) (WY sw sh _) ?_));refine(O0 ⟨0,0,sw,sh⟩ (rJ q.it.b x y).1 (rJ q.it.b x y).2 w2).mono ?_;rintro e w3 ⟨rfl,hb3⟩;have HB3:=Hd (HB2.o.trans (hb3.mono HB2.o.size));have dI:=Hd (bQ.o.below' hb3);clear hb3 HB2 bQ;by_cases hh:Bx.has ⟨0,0,sw,sh⟩ (rJ q.it.b x y).1 (rJ q.it.b x y).2=true
 ·rw[hh]at HCV ⊢;clear hh;go_wp2_with (first|(with_reducible refine gL ?_;first|(refine wt 63 0 rfl rfl rfl dI.o (q.cs) rfl underlying63 rfl ?_)));refine(HF.o w3 HB3.o).mono ?_;rintro e w4 ⟨rfl,hb4⟩;have HB4:=Hd (HB3.o.trans (hb4.mono HB3.o.size));clear hb4;go_wp2_with (fail);go_ret;exact⟨by rw[HCV.o,Bool.true_and];rfl,HB4.o⟩
 ·have hh2:Bx.has ⟨0,0,sw,sh⟩ (rJ q.it.b x y).1 (rJ q.it.b x y).2=false:=by simpa using hh
  rw[hh2]at HCV ⊢;clear hh hh2;go_wp2_with (fail);go_ret;exact⟨by rw[HCV.o];rfl,HB3.o⟩
theorem WG(q:DI)(x y:Int)(w:World)(hd:vW w q)(hok:q.it.Ok)(hx:-32768<=x∧x<=32767)(hy:-32768<=y∧y<=32767) :
  Calls prog 14 #[.agg q.cs.toArray,.int .i64 x,.int .i64 y] w (aJ (.int .u32 (q.it.at_ x y:Nat)) w):=by
 have HR:=Hd hd.1.row;have HPX:=Hd hd.2.1.row;have TU:=Hd hd.2.2;have dM:=Hd hok;have JK:=Hd (And.intro hx hy);have HB0:Hid (bz w (w.alloc (.cells q.cs.toArray 63))):=bR.alloc nR _;have kE:Hid (ax (w.alloc (.cells q.cs.toArray 63)) w.heap.size q.cs):=az w q.cs _;have HF:=Hd (fun W (hb:bz w W)=>Eh q x y W (aT.below HR.o hb) hok.c hok.few hx hy)
 obtain⟨z,hz⟩:=aB (dAt q.n.lk.k q.n.lk.W q.n.lk.H q.n.lk.p q.n.lk.iw q.n.lk.ih q.n.lk.l (rJ q.it.b x y).1 (rJ q.it.b x y).2)
 have hz2:uQ q.it.lk.k q.it.lk.W q.it.lk.H q.it.lk.p q.it.lk.iw q.it.lk.ih q.it.lk.l (rJ q.it.b x y).1 (rJ q.it.b x y).2=z:=by
  rw[←Y2 hok.lk,←hz,hd.2.2]
 have HAT:Hid (q.it.at_ x y=if q.it.free x y=true then ((oC z).times q.it.o).num else 0):=by
  show _=_;unfold It.at_;rw[hz2]
 have hzr:(oC z).Right:=by rw[←hz2];exact DZ hok.lk _ _
 have hz32:z<4294967296:=by rw[←hz2];exact Y3 hok _ _
 have FA:Hid (∀W,bz w W->Calls prog 43 #[.agg (q.n.cs q.A q.c).toArray,.int .i64 (rJ q.it.b x y).1,.int .i64 (rJ q.it.b x y).2] W (aJ (.int .u32 (z:Nat)) W)):=fun W hb=>by
  have h:=Zq q.n.m q.n.op q.n.hi q.n.cl q.n.r q.n.lk.k q.n.lk.W q.n.lk.H q.n.lk.p q.n.lk.iw q.n.lk.ih q.A q.n.lk.l q.c (rJ q.it.b x y).1 (rJ q.it.b x y).2 (by rw[hd.2.2];exact Au hok.lk) (by rw[hd.2.2];have:=hok.l;unfold maxLen;omega) W (Row.below HPX.o hb);rw[hz]at h;exact h
 have FR:=Hd (fun W:World=>Ef z hz32 W);have FT:=Hd (fun W:World=>MC (oC z) (qX hz32) q.it.o hok.o W);have FO:=Hd (fun W:World=>Zk ((oC z).times q.it.o) (Hu (qX hz32) hok.o) W);clear hd hok hx hy hz hz2 hzr hz32;go_enter func14,ntmps14
 go_upto_region 1 with(fail)
 generalize (w.alloc (.cells q.cs.toArray 63))=w0 at*;go_wp2_with (first|(with_reducible refine gL ?_;first|(refine wt 63 0 rfl rfl rfl kE.o (q.cs) rfl underlying63 rfl ?_)));refine(HF.o w0 HB0.o).mono ?_;rintro e w1 ⟨rfl,hb1⟩;have HB1:=Hd (HB0.o.trans (hb1.mono HB0.o.size));have gJ:=Hd (kE.o.below' hb1);clear hb1 HB0 kE;by_cases hh:q.it.free x y=true
 ·rw[hh]at HAT ⊢;have HAQ:=Hd (HAT.o.trans (if_pos rfl));clear hh HAT HF;have i0:=gJ.o.inside;go_wp2_with (first|(with_reducible refine gL ?_;first|(refine wt 54 7 rfl rfl rfl gJ.o (q.it.b.cs) rfl underlying54 rfl ?_)));refine(tC q.it.b x y w1 dM.o.b JK.o.1 JK.o.2).mono ?_;rintro e w2 ⟨rfl,hb2⟩;have HB2:=Hd (HB1.o.trans (hb2.mono HB1.o.size));have bQ:=Hd (gJ.o.below' hb2);clear hb2 i0 HB1 gJ;have FK:Hid (∀W,regs.bl w2 W->ax W w.heap.size q.cs):=fun W hb=>bQ.o.below' hb
  have FA2:Hid (∀W,regs.bl w2 W->Calls prog 43 #[.agg (q.n.cs q.A q.c).toArray,.int .i64 (rJ q.it.b x y).1,.int .i64 (rJ q.it.b x y).2] W (aJ (.int .u32 (z:Nat)) W)):=fun W hb=>FA.o W (HB2.o.trans (hb.mono HB2.o.size));have FA:=FA2
  go_upto_region 4 with(fail)
  refine Kt [22,23,24,25,26,27,28,29,30,31,6] (fun i=>match i with
   |0=>rp w.heap.size 15
   |1=>rV (.agg (q.n.cs q.A q.c).toArray)
   |2=>rV (.int .i64 (rJ q.it.b x y).1)
   |3=>rV (.int .i64 (rJ q.it.b x y).2)
   |4=>rV (.int .u32 (z:Nat))
   |5=>rV (.agg (Vl ((oC z).r:Nat) ((oC z).g:Nat) ((oC z).b:Nat) ((oC z).a:Nat)).toArray)
   |6=>rp w.heap.size 14
   |7=>rV (.int .i64 (q.it.o:Nat))
   |8=>rV (.agg (Vl (((oC z).times q.it.o).r:Nat) (((oC z).times q.it.o).g:Nat) (((oC z).times q.it.o).b:Nat) (((oC z).times q.it.o).a:Nat)).toArray)
   |9|10=>rV (.int .u32 (((oC z).times q.it.o).num:Nat))
   |_=>ra) ⟨?_,?_,?_,?_,?_,?_,?_,?_,?_,?_,?_,trivial⟩ ?_
  any_goals (first|refine zp fun L a w1 hh=>?_|fail)
  have h3:=hh.p 3 w.heap.size 0;have i0:=(FK.o _ hh.rel).inside;rotate_left
  ·have h22:=rq (hh.d 0 22);have hB:=Hd (FK.o _ hh.rel);have hJ:=Hd hh.st;exact aK 61 _ rfl w.heap.size 15 (by simpa[go_sem]using h22) _ hB.o (q.n.cs q.A q.c) rfl _ underlying61 rfl af ⟨_,rfl,rB,rfl,hJ.o⟩
  have h7:=hh.o 7 (v:=.int .i64 (rJ q.it.b x y).1) rfl;rotate_left;have h8:=hh.o 8 (v:=.int .i64 (rJ q.it.b x y).2) rfl;rotate_left
  ·have h23:=rq (hh.d 1 23);have tq:=rq (hh.d 2 24);have xq:=rq (hh.d 3 25);have hC:=Hd (FA.o _ hh.rel);have hJ:=hh.j;clear hh;go_simp;refine hC.o.mono ?_;rintro e w9 ⟨rfl,aS⟩;exact⟨_,rfl,aS,rfl,hJ.o⟩
  ·have CJ:=rq (hh.d 4 26);have hC:=Hd (FR.o w1);have hJ:=hh.j;clear hh;go_simp;refine hC.o.mono ?_;rintro e w9 ⟨rfl,aS⟩;exact⟨_,rfl,aS,rfl,hJ.o⟩
  have h3:=hh.p 3 w.heap.size 0;have i0:=(FK.o _ hh.rel).inside;rotate_left;have h28:=rq (hh.d 6 28);have ⟨c0,i0⟩:=(FK.o _ hh.rel).ci 14 rfl;rotate_left
  ·have h27:=rq (hh.d 5 27);have yw:=rq (hh.d 7 29);have hC:=Hd (FT.o w1);have hJ:=hh.j;clear hh;go_simp;refine hC.o.mono ?_;rintro e w9 ⟨rfl,aS⟩;exact⟨_,rfl,aS,rfl,hJ.o⟩
  ·have h30:=rq (hh.d 8 30);have hC:=Hd (FO.o w1);have hJ:=hh.j;clear hh;go_simp;refine hC.o.mono ?_;rintro e w9 ⟨rfl,aS⟩;exact⟨_,rfl,aS,rfl,hJ.o⟩
  have h31:=rq (hh.d 9 31);rotate_left
  any_goals (clear hh;go_simp;exact⟨_,rfl,rB,rfl,trivial⟩)
  intro L w4 val hL hJ hR hv;have h6:val 6=.int .u32 (((oC z).times q.it.o).num:Nat):=hv 10 6 af;have HR4:=Hd hR;clear hv hL hJ hR;simp only[regs.aC,List.map_cons,List.map_nil,h6];simp only[Act.put,List.setIfInBounds_toArray,List.set_cons_zero,List.set_cons_succ];clear h6
  skip
  have HB4:=Hd (HB2.o.trans (Below.mono HR4.o HB2.o.size));go_wp2_with (fail);go_ret;exact⟨by rw[HAQ.o];rfl,HB4.o⟩
 ·have hh2:q.it.free x y=false:=by simpa using hh
  rw[hh2]at HAT ⊢;have HAQ:=Hd (HAT.o.trans (if_neg (by decide)));clear hh hh2 HAT;go_wp2_with (fail);go_ret;exact⟨by rw[HAQ.o];rfl,HB1.o⟩
end
section
open Go.RowKit fH fV aF Go.Maps
def yT(x:aO)(w:World)(v:Value):Prop:=∃A c l,v=.slice A (l:List iG).length c∧aT 22 iG.cs w A l∧(∀q∈l,pI w q∧q.it.Ok)∧l.map (·.it)=items x
theorem yT.below{x:aO}{w w':World}{v:Value}(h:yT x w v)(hb:bz w w'):yT x w' v:=by
 obtain⟨A,c,l,h1,h2,h3,h4⟩:=h;exact⟨A,c,l,h1,aT.below h2 hb,fun q hq=>⟨(h3 q hq).1.below hb,(h3 q hq).2⟩,h4⟩
def pM(x:aO)(w:World)(v:Value):Prop:=∃A c l,v=.slice A (l:List DI).length c∧aT 35 DI.cs w A l∧(∀q∈l,vW w q)∧l.map (·.it)=items x
theorem vW.below{w w':World}{q:DI}(h:vW w q)(hb:bz w w'):vW w' q:=h.dq (DQ.below hb nR)
theorem pM.below{x:aO}{w w':World}{v:Value}(h:pM x w v)(hb:bz w w'):pM x w' v:=by
 obtain⟨A,c,l,h1,h2,h3,h4⟩:=h;exact⟨A,c,l,h1,aT.below h2 hb,fun q hq=>(h3 q hq).below hb,h4⟩
end
section
open Go.RowKit fH fV aF Go.Maps
structure SV(B:Nat)(w w':World):Prop where
 bel:Below B w w'
 same:∀k,(∃j κ n,w.cell? ⟨k,j,none⟩=some (.int κ n))->w'.heap[k]?=w.heap[k]?
theorem SV.refl(B:Nat)(w:World):SV B w w:=⟨bR,fun _ _=>rfl⟩
theorem SV.trans{B:Nat}{w w1 w2:World}(h:SV B w w1)(k:SV B w1 w2):SV B w w2:=⟨h.bel.trans k.bel,fun j hj=>by
 have h1:=h.same j hj;refine(k.same j ?_).trans h1;obtain⟨i,κ,n,hc⟩:=hj;refine⟨i,κ,n,?_⟩;unfold World.cell? at hc ⊢;rw[h1]
 exact hc⟩
theorem SV.below{B:Nat}{w w':World}(hb:bz w w')(hB:B<=w.heap.size):SV B w w':=⟨hb.mono hB,fun k ⟨_,_,_,hc⟩=>hb.block k (World.block_lt_of_cell? w _ hc)⟩
theorem SV.put{B g:Nat}{w:World}{A:Option Addr}{n c:Nat}(hb:ax w g [.slice A n c])(hg:B<=g)(v:Value):SV B w (w.setCell ⟨g,0,none⟩ v):=⟨cO bR hg,fun k ⟨j,κ,n,hc⟩=>heap_setCell_other _ _ _ _ fun e=>by
 have e:k=g:=e;subst e;rw[hb.cell]at hc;cases j with
 |zero=>cases hc
 |succ j=>cases hc⟩
theorem ELi{α:Type}{k:Nat}{enc:α->List Value}{w:World}{A:Option Addr}{l:List α}(h:aT k enc w A l)(he:∀q,∃κ z r,enc q=.int κ z::r){a:Addr}(ea:A=some a)(hne:l≠[]):∃j κ n,w.cell? ⟨a.block,j,none⟩=some (.int κ n):=by
 cases l with
 |nil=>exact absurd rfl hne
 |cons q l=>
  obtain⟨b,o,e,hc⟩:=h (by simp);rw[ea]at e;obtain rfl:=Option.some.inj e;obtain⟨κ,z,r,eq⟩:=he q
  exact⟨o,κ,z,by simpa using hc 0 (by simp) 0 (.int κ z) (by show(enc q)[0]?=_;rw[eq];rfl)⟩
theorem ELr{w:World}{A:Option Addr}{l:List Nat}(h:Row eW w A l){a:Addr}(ea:A=some a)(hne:l≠[]):∃j κ n,w.cell? ⟨a.block,j,none⟩=some (.int κ n):=by
 cases l with
 |nil=>exact absurd rfl hne
 |cons q l=>
  obtain⟨b,o,e,hc⟩:=h.at_ (k:=0) (by simp);rw[ea]at e;obtain rfl:=Option.some.inj e;exact⟨_,_,_,hc⟩
theorem EL{α:Type}{k B:Nat}{enc:α->List Value}{w w':World}{A:Option Addr}{l:List α}(h:aT k enc w A l)(he:∀q,∃κ z r,enc q=.int κ z::r)(hr:SV B w w'):aT k enc w' A l:=aT.Uo h fun _ ea n=>hr.same _ (ELi h he ea n)
theorem a05{B:Nat}{w w':World}{A:Option Addr}{l:List Nat}(h:Row eW w A l)(hr:SV B w w'):Row eW w' A l:=Row.stays h fun _ ea n=>hr.same _ (ELr h ea n)
theorem a06{B:Nat}{w w':World}{A:Option Addr}{l:List Nat}(h:mM w A l)(hr:SV B w w'):mM w' A l:=h.stays fun _ ea n=>hr.same _ (ELr h.row ea n)
theorem Zt{B:Nat}{w w':World}{A:Option Addr}{l:List Cl}(h:Cm w A l)(hr:SV B w w'):Cm w' A l:=h.stays fun _ ea n=>hr.same _ (ELi h.row (fun _=>⟨_,_,_,rfl⟩) ea n)
theorem yT.sv{B:Nat}{x:aO}{w w':World}{v:Value}(h:yT x w v)(hr:SV B w w'):yT x w' v:=by
 obtain⟨A,c,l,h1,h2,h3,h4⟩:=h;exact⟨A,c,l,h1,EL h2 (fun _=>⟨_,_,_,rfl⟩) hr,fun q hq=>⟨⟨EL (h3 q hq).1.rW (fun _=>⟨_,_,_,rfl⟩) hr,a05 (h3 q hq).1.px hr⟩,(h3 q hq).2⟩,h4⟩
theorem pM.sv{B:Nat}{x:aO}{w w':World}{v:Value}(h:pM x w v)(hr:SV B w w'):pM x w' v:=by
 obtain⟨A,c,l,h1,h2,h3,h4⟩:=h;exact⟨A,c,l,h1,EL h2 (fun _=>⟨_,_,_,rfl⟩) hr,fun q hq=>⟨Zt (h3 q hq).1 hr,a06 (h3 q hq).2.1 hr,(h3 q hq).2.2⟩,h4⟩
theorem yT.shape{x:aO}{w:World}{v:Value}(h:yT x w v):∃A n c,v=.slice A n c:=by
 obtain⟨A,c,l,h1,-⟩:=h;exact⟨_,_,_,h1⟩
theorem pM.shape{x:aO}{w:World}{v:Value}(h:pM x w v):∃A n c,v=.slice A n c:=by
 obtain⟨A,c,l,h1,-⟩:=h;exact⟨_,_,_,h1⟩
structure OJ(B:Nat)(T:TypeId)(iA iS:Bool)(vA vC:Value)(w:World):Prop where
 gQ:B<=w.heap.size
 ex:iA=true->∃g,vA=.pointer (some ⟨g,0,none⟩)∧B<=g∧ak w g [bif iS then vC else .slice none 0 0] T
section
variable {B:Nat}{T T2:TypeId}{iA iS:Bool}{vA vC uA uC:Value}{w w':World}
theorem OJ.slots(h:OJ B T iA iS vA vC w)(e1:uA=vA)(e2:uC=vC):OJ B T iA iS uA uC w:=by rw[e1,e2];exact h
theorem OJ.below(h:OJ B T iA iS vA vC w)(hb:bz w w'):OJ B T iA iS vA vC w':=⟨Nat.le_trans h.gQ hb.size,fun e=>by
 obtain⟨g,h1,h2,h3⟩:=h.ex e
 exact⟨g,h1,h2,h3.stays (hb.block _ h3.inside)⟩⟩
theorem OJ.told(h:OJ B T iA iS vA vC w)(eS:iS=false)(e1:uA=vA):OJ B T iA iS uA uC w:=by
 rw[e1]
 exact⟨h.gQ,fun e=>by
  obtain⟨g,h1,h2,h3⟩:=h.ex e;rw[eS]at h3 ⊢
  exact⟨g,h1,h2,h3⟩⟩
theorem OJ.made(h:OJ B T iA iS vA vC w)(eS:iS=false)(e1:uA=.pointer (some ⟨w.heap.size,0,none⟩)):OJ B T true iS uA uC (w.alloc (.cells #[.slice none 0 0] T)):=
 ⟨Nat.le_trans h.gQ (by simp),fun _=>⟨w.heap.size,e1,h.gQ,by rw[eS];exact ak.new w [.slice none 0 0] T⟩⟩
theorem OJ.put{g:Nat}{v9:Value}(h:OJ B T iA iS vA vC w)(e1:vA=.pointer (some ⟨g,0,none⟩))(hg:B<=g)(hb:ak w g [.slice none 0 0] T)(e2:uC=vC)(ev:vC=v9)(e3:uA=vA):OJ B T iA true uA uC (w.setCell ⟨g,0,none⟩ v9):=by
 rw[e2,e3,←ev];exact⟨by simpa[World.setCell]using h.gQ,fun _=>⟨g,e1,hg,hb.set 0 vC⟩⟩
theorem OJ.other{g:Nat}{cs:List Value}{v:Value}(h:OJ B T iA iS vA vC w)(hb:ak w g cs T2)(hT:T2≠T):OJ B T iA iS vA vC (w.setCell ⟨g,0,none⟩ v):=⟨by simpa[World.setCell]using h.gQ,fun e=>by
 obtain⟨g2,h1,h2,h3⟩:=h.ex e;refine⟨g2,h1,h2,h3.stays (heap_setCell_other _ _ _ _ fun e2=>?_)⟩;have e2:g2=g:=e2;subst e2;unfold ak at h3 hb;rw[h3]at hb
 injection hb with hb
 injection hb with _ hb _
 exact hT hb.symm⟩
end
structure Xj(w:World)(g9 g10:Nat)(A1:Option Addr)(l1:List iG)(c1:Nat)(A2:Option Addr)(l2:List DI)(c2:Nat):Prop where
 b1:ax w g9 [.slice A1 l1.length c1]
 b2:ax w g10 [.slice A2 l2.length c2]
 r1:aT 22 iG.cs w A1 l1
 r2:aT 35 DI.cs w A2 l2
 a1:∀q∈l1,pI w q∧q.it.Ok
 a2:∀q∈l2,vW w q
 same:l2.map (·.it)=l1.map (·.it)
 few:l1.length<=1000
theorem Xj.below{w w':World}{g9 g10:Nat}{A1:Option Addr}{l1:List iG}{c1:Nat}{A2:Option Addr}{l2:List DI}{c2:Nat}(h:Xj w g9 g10 A1 l1 c1 A2 l2 c2)(hb:bz w w'):Xj w' g9 g10 A1 l1 c1 A2 l2 c2:=
 ⟨h.b1.below' hb,h.b2.below' hb,aT.below h.r1 hb,aT.below h.r2 hb,fun q hq=>⟨(h.a1 q hq).1.below hb,(h.a1 q hq).2⟩,fun q hq=>(h.a2 q hq).below hb,h.same,h.few⟩
theorem Jq{w:World}{g9 g10:Nat}{A1:Option Addr}{l1:List iG}{c1:Nat}{A2:Option Addr}{l2:List DI}{c2:Nat}(h:Xj w g9 g10 A1 l1 c1 A2 l2 c2)(x y:Int)(hx:-32768<=x∧x<=32767)(hy:-32768<=y∧y<=32767) :
  Calls prog 12 #[.int .i64 x,.int .i64 y,.pointer (some ⟨g9,0,none⟩),.pointer (some ⟨g10,0,none⟩)] w (aJ (.bool true) w):=by
 have HT:=Hd h;have JK:=Hd (And.intro hx hy)
 have CO:Hid (l2.length=l1.length):=by
  have h1:=congrArg List.length h.same
  rwa [List.length_map,List.length_map]at h1
 have c0:=h.b1.c 0 rfl;have i0:=h.b1.inside;have hnb:((l1.length:Nat):Int)<=1000:=by have:=h.few;omega
 clear h hx hy;go_enter func12,ntmps12;go_wp2_with (fail);clear c0 i0
 go_loopw [10] (fun i wr=>∃j:Nat,j<=l1.length∧i=.int .i64 j∧Hid (bz w wr)) (fun i _=>l1.length - (intOf i).toNat)
 case atStart=>exact⟨0,Nat.zero_le _,rfl,bR⟩
 case round=>
  obtain⟨j,hj,rfl,zC⟩:=hrel;generalize wr=wj at*;by_cases hlt:j<l1.length
  ·have t4:decide (j<l1.length)=true:=by simpa using hlt
   have Yt:=Hd hlt;have hlt2:j<l2.length:=by rw[CO.o];exact hlt
   have HJ2:=Hd hlt2;have SA:=Hd (HT.o.below zC.o);obtain⟨b1,o1,eA1,hc1⟩:=SA.o.r1 (Nat.lt_of_le_of_lt (Nat.zero_le j) hlt);obtain⟨b2,o2,eA2,hc2⟩:=SA.o.r2 (Nat.lt_of_le_of_lt (Nat.zero_le j) hlt2);subst eA1 eA2
   obtain⟨q,hq⟩:∃q,q=l1[j]'hlt:=⟨_,rfl⟩
   obtain⟨d,hd⟩:∃d,d=l2[j]'hlt2:=⟨_,rfl⟩
   have NH:Hid (wj.rangeAt b1 (o1+j*22) q.cs):=by rw[hq];exact fun i v hv=>hc1 j hlt i v hv
   have a2b:Hid (wj.rangeAt b2 (o2+j*35) d.cs):=by rw[hd];exact fun i v hv=>hc2 j hlt2 i v hv
   have vZ:Hid (q∈l1):=by rw[hq];exact List.getElem_mem hlt
   have HDM:Hid (d∈l2):=by rw[hd];exact List.getElem_mem hlt2
   have HDQ:Hid (d.it=q.it):=by
    have h:(l2.map (·.it))[j]?=(l1.map (·.it))[j]?:=by rw[HT.o.same]
    rw[List.getElem?_map,List.getElem?_map,List.getElem?_eq_getElem hlt,List.getElem?_eq_getElem hlt2,←hq,←hd]at h;exact Option.some.inj h
   have F9:Hid (∀W,regs.bl wj W->ax W g9 [.slice (some ⟨b1,o1,none⟩) l1.length c1]):=fun W hb=>SA.o.b1.below' hb;have F10:Hid (∀W,regs.bl wj W->ax W g10 [.slice (some ⟨b2,o2,none⟩) l2.length c2]):=fun W hb=>SA.o.b2.below' hb;have FA:Hid (∀W,regs.bl wj W->Calls prog 13 #[.agg q.cs.toArray,.int .i64 x,.int .i64 y] W (aJ (.int .u32 (q.it.at_ x y:Nat)) W)):=fun W hb=>AP q x y W ((SA.o.a1 q vZ.o).1.below hb) (SA.o.a1 q vZ.o).2 JK.o.1 JK.o.2
   have FB:Hid (∀W,regs.bl wj W->Calls prog 14 #[.agg d.cs.toArray,.int .i64 x,.int .i64 y] W (aJ (.int .u32 (q.it.at_ x y:Nat)) W)):=fun W hb=>by
    rw[←HDQ.o];exact WG d x y W ((SA.o.a2 d HDM.o).below hb) (by rw[HDQ.o];exact(SA.o.a1 q vZ.o).2) JK.o.1 JK.o.2
   have FC:Hid (∀W,regs.bl wj W->Calls prog 15 #[.agg q.cs.toArray,.int .i64 x,.int .i64 y] W (aJ (.bool (q.it.covers x y)) W)):=fun W hb=>oz q x y W ((SA.o.a1 q vZ.o).1.below hb) (SA.o.a1 q vZ.o).2 JK.o.1 JK.o.2
   have FD:Hid (∀W,regs.bl wj W->Calls prog 16 #[.agg d.cs.toArray,.int .i64 x,.int .i64 y] W (aJ (.bool (q.it.covers x y)) W)):=fun W hb=>by
    rw[←HDQ.o];exact WE d x y W ((SA.o.a2 d HDM.o).below hb) (by rw[HDQ.o];exact(SA.o.a1 q vZ.o).2) JK.o.1 JK.o.2
   generalize q.it.at_ x y=z at*;generalize q.it.covers x y=cv at*;have hjb:(j:Int)<=1000:=by omega
   clear hc1 hc2 hq hd hlt hlt2 hj
   go_upto_region 4 with(fail)
   refine Kt [13,14,15,16,17,18,19,20,21,22,23,24,25,26,27,28,29,30,31,32,33,34,35,36,37,38,39,40,41,42,43,44] (fun i=>match i with
    |0|16=>rV (.slice (some ⟨b1,o1,none⟩) l1.length c1)
    |1|8|17|24=>rV (.int .i64 (j:Nat))
    |2|18=>rV (.pointer (some ⟨b1,(o1+j*22),none⟩))
    |3|19=>rV (.agg (q.cs).toArray)
    |4|11|20|27=>rV (.int .i64 x)
    |5|12|21|28=>rV (.int .i64 y)
    |6|13=>rV (.int .u32 (z:Nat))
    |7|23=>rV (.slice (some ⟨b2,o2,none⟩) l2.length c2)
    |9|25=>rV (.pointer (some ⟨b2,(o2+j*35),none⟩))
    |10|26=>rV (.agg (d.cs).toArray)
    |14|15|30|31=>rV (.bool false)
    |22|29=>rV (.bool cv)
    |_=>ra) ⟨?_,?_,?_,?_,?_,?_,?_,?_,?_,?_,?_,?_,?_,?_,?_,?_,?_,?_,?_,?_,?_,?_,?_,?_,?_,?_,?_,?_,?_,?_,?_,?_,trivial⟩ ?_
   any_goals (first|refine zp fun L a w1 hh=>?_|fail)
   any_goals (first|refine sy rfl rfl fun L a w1 hh=>?_|fail)
   have h2:=hh.p 2 g9 0;have ⟨c0,i0⟩:=(F9.o _ hh.rel).ci 0 rfl;rotate_left;have h7:=hh.o 7 (v:=.int .i64 (j:Nat)) rfl;rotate_left;have h13:=rq (hh.d 0 13);have yx:=rq (hh.d 1 14);have hlt:=Yt.o;rotate_left
   ·have h15:=rq (hh.d 2 15)
    have uY:=(lS NH.o hh.rel)
    have hJ:=Hd hh.st;exact wp_load_mid 51 _ rfl b1 (o1+j*22) (by simpa[go_sem]using h15) q.cs _ uY underlying51 rfl af ⟨_,rfl,rB,rfl,hJ.o⟩
   have h0:=hh.o 0 (v:=.int .i64 x) rfl;rotate_left;have h1:=hh.o 1 (v:=.int .i64 y) rfl;rotate_left
   ·have h16:=rq (hh.d 3 16);have h17:=rq (hh.d 4 17);have h18:=rq (hh.d 5 18);have hC:=Hd (FA.o _ hh.rel);have hJ:=hh.j;clear hh;go_simp;refine hC.o.mono ?_;rintro e w9 ⟨rfl,aS⟩;exact⟨_,rfl,aS,rfl,hJ.o⟩
   have h3:=hh.p 3 g10 0;have ⟨c0,i0⟩:=(F10.o _ hh.rel).ci 0 rfl;rotate_left;have h7:=hh.o 7 (v:=.int .i64 (j:Nat)) rfl;rotate_left;have h20:=rq (hh.d 7 20);have h21:=rq (hh.d 8 21);have hlt:=HJ2.o;rotate_left
   ·have h22:=rq (hh.d 9 22)
    have uY:=(lS a2b.o hh.rel)
    have hJ:=Hd hh.st;exact wp_load_mid 63 _ rfl b2 (o2+j*35) (by simpa[go_sem]using h22) d.cs _ uY underlying63 rfl af ⟨_,rfl,rB,rfl,hJ.o⟩
   have h0:=hh.o 0 (v:=.int .i64 x) rfl;rotate_left;have h1:=hh.o 1 (v:=.int .i64 y) rfl;rotate_left
   ·have h23:=rq (hh.d 10 23);have tq:=rq (hh.d 11 24);have xq:=rq (hh.d 12 25);have hC:=Hd (FB.o _ hh.rel);have hJ:=hh.j;clear hh;go_simp;refine hC.o.mono ?_;rintro e w9 ⟨rfl,aS⟩;exact⟨_,rfl,aS,rfl,hJ.o⟩
   have h19:=rq (hh.d 6 19);have CJ:=rq (hh.d 13 26);rotate_left;have h27:=rq (hh.d 14 27);rotate_left;have h2:=hh.p 2 g9 0;have ⟨c0,i0⟩:=(F9.o _ hh.rel).ci 0 rfl;rotate_left;have h7:=hh.o 7 (v:=.int .i64 (j:Nat)) rfl;rotate_left;have yw:=rq (hh.d 16 29);have h30:=rq (hh.d 17 30);have hlt:=Yt.o;rotate_left
   ·have h31:=rq (hh.d 18 31)
    have uY:=(lS NH.o hh.rel)
    have hJ:=Hd hh.st;exact wp_load_mid 51 _ rfl b1 (o1+j*22) (by simpa[go_sem]using h31) q.cs _ uY underlying51 rfl af ⟨_,rfl,rB,rfl,hJ.o⟩
   have h0:=hh.o 0 (v:=.int .i64 x) rfl;rotate_left;have h1:=hh.o 1 (v:=.int .i64 y) rfl;rotate_left
   ·have h32:=rq (hh.d 19 32);have OM:=rq (hh.d 20 33);have TB:=rq (hh.d 21 34);have hC:=Hd (FC.o _ hh.rel);have hJ:=hh.j;clear hh;go_simp;refine hC.o.mono ?_;rintro e w9 ⟨rfl,aS⟩;exact⟨_,rfl,aS,rfl,hJ.o⟩
   have h3:=hh.p 3 g10 0;have ⟨c0,i0⟩:=(F10.o _ hh.rel).ci 0 rfl;rotate_left;have h7:=hh.o 7 (v:=.int .i64 (j:Nat)) rfl;rotate_left;have TA:=rq (hh.d 23 36);have h37:=rq (hh.d 24 37);have hlt:=HJ2.o;rotate_left
   ·have h38:=rq (hh.d 25 38)
    have uY:=(lS a2b.o hh.rel)
    have hJ:=Hd hh.st;exact wp_load_mid 63 _ rfl b2 (o2+j*35) (by simpa[go_sem]using h38) d.cs _ uY underlying63 rfl af ⟨_,rfl,rB,rfl,hJ.o⟩
   have h0:=hh.o 0 (v:=.int .i64 x) rfl;rotate_left;have h1:=hh.o 1 (v:=.int .i64 y) rfl;rotate_left
   ·have Tz:=rq (hh.d 26 39);have Tv:=rq (hh.d 27 40);have Tu:=rq (hh.d 28 41);have hC:=Hd (FD.o _ hh.rel);have hJ:=hh.j;clear hh;go_simp;refine hC.o.mono ?_;rintro e w9 ⟨rfl,aS⟩;exact⟨_,rfl,aS,rfl,hJ.o⟩
   have h35:=rq (hh.d 22 35);have h42:=rq (hh.d 29 42);rotate_left;have h28:=rq (hh.d 15 28);have h43:=rq (hh.d 30 43);rotate_left
   any_goals (clear hh;go_simp;exact⟨_,rfl,rB,rfl,trivial⟩)
   intro L w6 val hL hJ hR hv;have FN:val 44=.bool false:=hv 31 44 af;have yM:=Hd hR;clear hv hL hJ hR;simp only[regs.aC,List.map_cons,List.map_nil,FN];simp only[Act.put,List.setIfInBounds_toArray,List.set_cons_zero,List.set_cons_succ];clear FN
   skip
   have a6C:=Hd (zC.o.trans (Below.mono yM.o zC.o.size));clear NH a2b F9 F10 FA FB FC FD yM zC SA;go_wp2_with (fail)
   go_roundw
   case rel=>exact⟨j+1,Yt.o,by go_num,a6C.o⟩
   case measure=>have:=Yt.o;simp[intOf];omega
  ·obtain rfl:j=l1.length:=by omega
   have t4:decide (l1.length<l1.length)=false:=by simp
   clear hlt;go_wp2_with (fail);go_ret;exact⟨rfl,zC.o⟩
theorem yC:Enters prog 12:=enters_of func12 af rfl
end
section
open Go.RowKit fH fV aF Go.Maps
theorem Ru(A:Option Addr)(TL:List vY)(c:Nat)(X Y:Int)(w:World)(h1:Nl w A TL)(_:TL.length*24<=140737488351232)(_:-9223372036854775808<=X)(_:X<=9223372036854775807)(_:-9223372036854775808<=Y)(_:Y<=9223372036854775807) :
  Calls prog 4 (Vv A TL.length c X Y).toArray w (aJ (.bool true) w):=by
 have HT:=Hd h1;have iO:=Hd (size_law TL A c w h1);clear h1;go_enter func4,ntmps4;go_wp2_with (fail);refine iO.o.mono ?_;unfold a0O;rintro e wa ⟨n,rfl,hn,a5z,hb1⟩;have iH:=Hd hb1;have Yp:=Hd hn;clear hb1 hn iO a5z;by_cases q0:n<0;have t0:decide (n<0)=true:=decide_eq_true q0;clear q0;rotate_left;have t0:decide (n<0)=false:=decide_eq_false q0;by_cases q1:X < -16384;have t1:decide (X < -16384)=true:=decide_eq_true q1;clear q1;rotate_left;have t1:decide (X < -16384)=false:=decide_eq_false q1;by_cases q2:16383<X;have t2:decide (16383<X)=true:=decide_eq_true q2;clear q2;rotate_left;have t2:decide (16383<X)=false:=decide_eq_false q2;by_cases q3:Y < -16384;have t3:decide (Y < -16384)=true:=decide_eq_true q3;clear q3;rotate_left;have t3:decide (Y < -16384)=false:=decide_eq_false q3;by_cases q4:16383<Y;have t4:decide (16383<Y)=true:=decide_eq_true q4;clear q4;rotate_left;have t4:decide (16383<Y)=false:=decide_eq_false q4
 ·have HF:Hid (fits TL):=Yp.o.1 (by omega)
  have HXY:Hid ((-16384<=X∧X<=16383)∧-16384<=Y∧Y<=16383):=⟨⟨by omega,by omega⟩,by omega,by omega⟩
  clear q0 q1 q2 q3 q4 Yp;go_wp2_with (fail);refine(Lh A TL c wa (HT.o.below iH.o) HF.o).mono ?_;unfold Pv;rintro e wb ⟨g,b,m,s,v,x,rfl,hm,hd,hx,hxl⟩;obtain⟨Ad,cd,dm,rfl,-,-⟩:=hd.ex;have HDb:=Hd hd;have HMb:=Hd hm;have HX:=Hd hx;have HXT:Hid (x.t.length<=900):=by show _<=_;omega
  clear hm hd hx hxl HT HF t0 t1 t2 t3 t4;have HZb:Hid (ax (wb.alloc (.cells Vf.toArray 30)) wb.heap.size Vf):=az wb Vf _;have vT:Hid (bz wb (wb.alloc (.cells Vf.toArray 30))):=bR.alloc nR _
  go_upto_region 4 with(first|(with_reducible refine gS ?_;first|(refine ay 30 _ _ rfl rfl rfl _ 0 rfl ((Vb 8 8 30 Ad x.t.length cd dm)) rfl (Vf) HZb.o ((Vb 8 8 30 Ad x.t.length cd dm)) rfl (nE rfl) af rfl ?_;intro wc HWc HKc)))
  have a2y:Hid (bz wb wc):=HWc.o.below vT.o nR;have HMc:=Hd (HMb.o.below a2y.o);have HDc:=Hd (HDb.o.below a2y.o);have a2A:=Hd (iH.o.trans (HMc.o.bel.mono iH.o.size));clear HZb vT HWc HMb HDb a2y;have FK:Hid (∀W,regs.bl wc W->ax W wb.heap.size (Vb 8 8 30 Ad x.t.length cd dm)):=fun W hb=>HKc.o.below' hb
  have FA:Hid (∀W,regs.bl wc W->Calls prog 8 #[.pointer (some ⟨g,0,none⟩)] W fun e w'=>∃v,e=.returned v∧yT x w' v∧regs.bl W w'):=fun W hb=>by
   refine(IM (HMc.o.at_.below hb) HX.o HXT.o).mono ?_;unfold Pz;rintro e w' ⟨A1,c1,l1,h1,h2,h3,h4,-,h5⟩;exact⟨_,h1,⟨A1,c1,l1,rfl,h2,fun q hq=>⟨(h3 q hq).1,(h3 q hq).2.1⟩,h4⟩,h5⟩
  have FB:Hid (∀W,regs.bl wc W->Calls prog 9 #[.agg (Vb 8 8 30 Ad x.t.length cd dm).toArray] W fun e w'=>∃v,e=.returned v∧pM x w' v∧regs.bl W w'):=fun W hb=>by
   refine(Ro HX.o HXT.o _ 8 8 30 (HDc.o.below hb)).mono ?_;unfold NZ;rintro e w' ⟨A1,c1,l1,h1,h2,h3,h4,h5⟩;exact⟨_,h1,⟨A1,c1,l1,rfl,h2,h3,h4⟩,h5⟩
  go_upto_region 6 with(fail)
  refine Kr (SV wc.heap.size) (fun L V wx=>OJ wc.heap.size 33 (L 4) (L 6) (V 9) (V 43) wx∧OJ wc.heap.size 35 (L 5) (L 7) (V 10) (V 45) wx∧(L 6=true->L 1=true)∧(L 6=true->L 4=true)∧(L 7=true->L 3=true)∧(L 7=true->L 5=true)) [42,43,44,45,9,10] (fun _=>SV.refl _ _) (fun _ _ _ h k=>h.trans k) (fun i=>match i with
   |0=>rp g 0
   |1=>(⟨fun v wv=>yT x wv v,fun v q1 q2 h hb=>h.sv hb⟩:regs.kD (SV wc.heap.size))
   |2=>rV (.agg ((Vb 8 8 30 Ad x.t.length cd dm)).toArray)
   |3=>(⟨fun v wv=>pM x wv v,fun v q1 q2 h hb=>h.sv hb⟩:regs.kD (SV wc.heap.size))
   |_=>ra) (SV.below bR.drew nR) (⟨⟨nR,fun e=>nomatch e⟩,⟨nR,fun e=>nomatch e⟩,nofun,nofun,nofun,fun e=>nomatch e⟩) ⟨?_,?_,?_,?_,?_,?_,?_,?_,trivial⟩ ?_
  any_goals (first|refine fE fun L a w1 hh=>?_|fail)
  ·have h7:=hh.p 7 g 0;have hJ:=hh.j;clear hh;go_simp;exact⟨_,rfl,SV.refl _ _,rfl,⟨OJ.slots hJ.o.1 sn sn,OJ.slots hJ.o.2.1 sn sn,hJ.o.2.2⟩⟩
  ·have h42:=rq (hh.d 0 42);have hC:=Hd (FA.o _ hh.rel.bel);have Cc:=Hd (bI hh.st.2.2.1 hh.un);have hJ:=Hd hh.st;have hsz:=Hd hh.size;have hbz:=Hd (show wc.heap.size<=w1.heap.size from hh.rel.bel.size);clear hh;go_simp;refine hC.o.mono ?_;rintro e w9 ⟨v9,rfl,h9,aS⟩;exact⟨_,rfl,SV.below aS hbz.o,h9,⟨OJ.told (hJ.o.1.below aS) Cc.o sn,OJ.slots (hJ.o.2.1.below aS) sn sn,(fun _=>rfl),hJ.o.2.2.2⟩⟩
  ·have h8:=hh.p 8 wb.heap.size 0;have hB:=Hd (FK.o _ hh.rel.bel);have hJ:=Hd hh.st;exact aK 30 _ rfl wb.heap.size 0 (by simpa[go_sem]using h8) _ hB.o ((Vb 8 8 30 Ad x.t.length cd dm)) rfl _ underlying30 rfl af ⟨_,rfl,SV.refl _ _,rfl,⟨OJ.slots hJ.o.1 sn sn,OJ.slots hJ.o.2.1 sn sn,hJ.o.2.2⟩⟩
  ·have FN:=rq (hh.d 2 44);have hC:=Hd (FB.o _ hh.rel.bel);have Cc:=Hd (bI hh.st.2.2.2.2.1 hh.un);have hJ:=Hd hh.st;have hsz:=Hd hh.size;have hbz:=Hd (show wc.heap.size<=w1.heap.size from hh.rel.bel.size);clear hh;go_simp;refine hC.o.mono ?_;rintro e w9 ⟨v9,rfl,h9,aS⟩;exact⟨_,rfl,SV.below aS hbz.o,h9,⟨OJ.slots (hJ.o.1.below aS) sn sn,OJ.told (hJ.o.2.1.below aS) Cc.o sn,hJ.o.2.2.1,hJ.o.2.2.2.1,(fun _=>rfl),hJ.o.2.2.2.2.2⟩⟩
  ·have Cc:=Hd (bI hh.st.2.2.2.1 hh.un);have hJ:=Hd hh.st;have hsz:=Hd hh.size;have hbz:=Hd (show wc.heap.size<=w1.heap.size from hh.rel.bel.size);clear hh;go_simp;exact⟨_,rfl,SV.below (bR.alloc nR _) hbz.o,trivial,⟨OJ.made hJ.o.1 Cc.o (bM.aY (by rw[hsz.o];simp)),OJ.slots (hJ.o.2.1.below (bR.alloc nR _)) sn sn,hJ.o.2.2.1,(fun _=>rfl),hJ.o.2.2.2.2⟩⟩
  ·have Cc:=Hd (bI hh.st.2.2.2.2.2 hh.un);have hJ:=Hd hh.st;have hsz:=Hd hh.size;have hbz:=Hd (show wc.heap.size<=w1.heap.size from hh.rel.bel.size);clear hh;go_simp;exact⟨_,rfl,SV.below (bR.alloc nR _) hbz.o,trivial,⟨OJ.slots (hJ.o.1.below (bR.alloc nR _)) sn sn,OJ.made hJ.o.2.1 Cc.o (bM.aY (by rw[hsz.o];simp)),hJ.o.2.2.1,hJ.o.2.2.2.1,hJ.o.2.2.2.2.1,fun _=>rfl⟩⟩
  ·have hup:=hh.up 4 af;have a1n:=Hd (hh.up 1 af);obtain⟨gg,e9,jk,fA⟩:=hh.st.1.ex hup;rw[hh.un]at fA;obtain⟨Ag,ng,cg,ev⟩:=(show yT x w1 (a.tmps.getD 43 undef) from hh.d 1 43).shape;have h9:a.tmps[9]?.getD undef=.pointer (some ⟨gg,0,none⟩):=rq (e9);have h43:a.tmps[43]?.getD undef=.slice Ag ng cg:=rq (ev);have c0:=fA.blk.c 0 rfl;have f0:=fA.blk.free 0;have i0:=fA.inside;have wo:=Hd (show ak w1 gg [.slice none 0 0] 33 from fA);have HE9:=Hd (And.intro e9 jk);have HEV:=Hd ev;have IU:=Hd hup;have hJ:=Hd hh.st;have hsz:=Hd hh.size
   have hbz:=Hd (show wc.heap.size<=w1.heap.size from hh.rel.bel.size);clear hh hup fA e9 jk ev;go_simp;exact⟨SV.put wo.o.blk HE9.o.2 _,⟨undef,trivial⟩,⟨OJ.put hJ.o.1 HE9.o.1 HE9.o.2 wo.o rfl HEV.o rfl,OJ.other hJ.o.2.1 wo.o (by decide),(fun _=>a1n.o),(fun _=>IU.o),hJ.o.2.2.2.2⟩⟩
  ·have hup:=hh.up 5 af;have a1n:=Hd (hh.up 3 af);obtain⟨gg,e9,jk,fA⟩:=hh.st.2.1.ex hup;rw[hh.un]at fA;obtain⟨Ag,ng,cg,ev⟩:=(show pM x w1 (a.tmps.getD 45 undef) from hh.d 3 45).shape;have h10:a.tmps[10]?.getD undef=.pointer (some ⟨gg,0,none⟩):=rq (e9);have h45:a.tmps[45]?.getD undef=.slice Ag ng cg:=rq (ev);have c0:=fA.blk.c 0 rfl;have f0:=fA.blk.free 0;have i0:=fA.inside;have wo:=Hd (show ak w1 gg [.slice none 0 0] 35 from fA);have HE9:=Hd (And.intro e9 jk);have HEV:=Hd ev;have IU:=Hd hup;have hJ:=Hd hh.st;have hsz:=Hd hh.size
   have hbz:=Hd (show wc.heap.size<=w1.heap.size from hh.rel.bel.size);clear hh hup fA e9 jk ev;go_simp;exact⟨SV.put wo.o.blk HE9.o.2 _,⟨undef,trivial⟩,⟨OJ.other hJ.o.1 wo.o (by decide),OJ.put hJ.o.2.1 HE9.o.1 HE9.o.2 wo.o rfl HEV.o rfl,hJ.o.2.2.1,hJ.o.2.2.2.1,(fun _=>a1n.o),fun _=>IU.o⟩⟩
  intro L w4 val hL hJ hR hv;have HR4:=Hd hR;obtain⟨g9,e9,jk,aS⟩:=hJ.1.ex (hL 4 (by decide));rw[hL 6 (by decide)]at aS;obtain⟨g10,e10,Zb,Fv⟩:=hJ.2.1.ex (hL 5 (by decide));rw[hL 7 (by decide)]at Fv
  obtain⟨A1,c1,l1,e43,hr1,ha1,hm1⟩:=(show yT x w4 (val 43) from hv 1 43 af)
  obtain⟨A2,c2,l2,e45,hr2,ha2,hm2⟩:=(show pM x w4 (val 45) from hv 3 45 af)
  have J3:Hid (l1.length<=1000):=by
   have h1:=congrArg List.length hm1;rw[List.length_map]at h1;have h2:(items x).length<=(aF.walk x.t 0).length:=List.length_filterMap_le _ _;have h3:=uo HX.o.ok;have h4:=HXT.o;show _<=_;omega
  have TN:Hid (Xj w4 g9 g10 A1 l1 c1 A2 l2 c2):=⟨by rw[←e43];exact aS.blk,by rw[←e45];exact Fv.blk,hr1,hr2,ha1,ha2,hm2.trans hm1.symm,J3.o⟩
  clear hv hL hJ hR jk aS Zb Fv e43 e45 hr1 ha1 hm1 hr2 ha2 hm2;simp only[regs.aC,List.map_cons,List.map_nil];simp only[Act.put,List.setIfInBounds_toArray,List.set_cons_zero,List.set_cons_succ]
  skip
  rw[e9];clear e9;rw[e10];clear e10;have Gy:=Hd (a2A.o.trans (HR4.o.bel.mono a2A.o.size))
  have CO:Hid (l2.length=l1.length):=by
   have h1:=congrArg List.length TN.o.same
   rwa [List.length_map,List.length_map]at h1
  have t2:(((l1.length:Nat):Int) != ((l2.length:Nat):Int))=false:=by rw[CO.o];simp
  have cA:w4.cell? ⟨g9,0,none⟩=some (.slice A1 l1.length c1):=TN.o.b1.cell 0;have cB:w4.cell? ⟨g10,0,none⟩=some (.slice A2 l2.length c2):=TN.o.b2.cell 0;have iA:=TN.o.b1.inside;have iB:=TN.o.b2.inside;clear HR4 FK FA FB a2A HKc HMc HDc HX HXT J3 CO;go_wp2_with (fail);refine(pg X Y w4 (by have:=HXY.o;constructor<;>omega) (by have:=HXY.o;constructor<;>omega)).mono ?_;rintro e w5 ⟨rfl,hb5⟩;have PE:=Hd (TN.o.below hb5);have a2B:=Hd (Gy.o.trans (hb5.mono Gy.o.size));clear t2 cA cB iA iB hb5 TN Gy
  have HZp:Hid (ax (w5.alloc (.cells #[.int .i64 0,.int .i64 0] 66)) w5.heap.size [.int .i64 0,.int .i64 0]):=az w5 [.int .i64 0,.int .i64 0] _;have HBp:Hid (bz w5 (w5.alloc (.cells #[.int .i64 0,.int .i64 0] 66))):=bR.alloc nR _
  go_upto_region 10 with(first|(with_reducible refine gS ?_;first|(refine ay 66 _ _ rfl rfl rfl _ 0 rfl ((Ei X Y).cs) rfl ([.int .i64 0,.int .i64 0]) HZp.o ((Ei X Y).cs) rfl (nE rfl) af rfl ?_;intro w6 HWp HKp)))
  have Du:Hid (bz w5 w6):=HWp.o.below HBp.o nR;have SB:=Hd (PE.o.below Du.o);have a5e:=Hd (a2B.o.trans (Du.o.mono a2B.o.size));have cA:w6.cell? ⟨w5.heap.size,0,none⟩=some (.int .i64 (X*65536+32768)):=HKp.o.cell 0;have cB:w6.cell? ⟨w5.heap.size,1,none⟩=some (.int .i64 (Y*65536+32768)):=HKp.o.cell 1;have iA:=HKp.o.inside;have hxy:=HXY.o;obtain⟨⟨x1,x2⟩,y1,y2⟩:=hxy
  obtain⟨zx,hzx⟩:∃z,X*65536=z:=⟨_,rfl⟩
  obtain⟨zy,hzy⟩:∃z,Y*65536=z:=⟨_,rfl⟩
  have v1:IntKind.i64.wrap zx=zx:=IntWalk.i64_in _ (by omega);have v2:IntKind.i64.wrap (zx+32768)=zx+32768:=IntWalk.i64_in _ (by omega);have v3:IntKind.i64.wrap zy=zy:=IntWalk.i64_in _ (by omega);have v4:IntKind.i64.wrap (zy+32768)=zy+32768:=IntWalk.i64_in _ (by omega);have u1:wrap64 zx=zx:=IntWalk.wrap64_in _ (by omega);have u2:wrap64 (zx+32768)=zx+32768:=IntWalk.wrap64_in _ (by omega);have u3:wrap64 zy=zy:=IntWalk.wrap64_in _ (by omega);have u4:wrap64 (zy+32768)=zy+32768:=IntWalk.wrap64_in _ (by omega);rw[hzx]at cA;rw[hzy]at cB
  clear PE a2B HZp HBp HWp HKp Du x1 x2 y1 y2
  go_upto_region 12 with(fail)
  clear cA cB iA v1 v2 v3 v4 u1 u2 u3 u4 hzx hzy;go_wp2_with (fail)
  go_loopw [13] (fun v wr=>∃t:Int,-1<=t∧t<=7∧v=.int .i64 t∧Hid (bz w6 wr)) (fun v _=>(7 - intOf v).toNat)
  case atStart=>exact⟨-1,by omega,by omega,rfl,bR⟩
  case round=>
   obtain⟨t,ht1,ht2,rfl,HBT⟩:=hrel;generalize wr=wT at*;have HTB:=Hd (And.intro ht1 ht2);by_cases htl:t<7
   ·have k1:decide (t<7)=true:=decide_eq_true htl;have HTL:=Hd htl;clear htl;go_wp2_with (fail)
    go_loopw [14] (fun v wr=>∃r:Int,-1<=r∧r<=7∧v=.int .i64 r∧Hid (bz w6 wr)) (fun v _=>(7 - intOf v).toNat)
    case atStart=>exact⟨-1,by omega,by omega,rfl,HBT.o⟩
    case round=>
     obtain⟨r,hr1,hr2,rfl,zC⟩:=hrel;generalize wr=wR at*;have GY:=Hd (And.intro hr1 hr2);by_cases hrl:r<7
     ·have k2:decide (r<7)=true:=decide_eq_true hrl;have qJ:=Hd hrl;have HCC:=Hd (Jq (SB.o.below zC.o) r t (by omega) (by omega));have he':=yC;unfold Enters at he';clear hrl hr1 hr2 ht1 ht2;go_wp2_with (fail);refine HCC.o.mono ?_;rintro e wQ ⟨rfl,hbq⟩;have Yv:Hid (bz w6 wQ):=zC.o.trans (hbq.mono zC.o.size);have hrb:=GY.o;have hrl:=qJ.o;clear hbq zC HCC he';go_wp2_with (fail)
      go_roundw
      case rel=>exact⟨r+1,by omega,by omega,by go_num,Yv.o⟩
      case measure=>simp[intOf];omega
     ·obtain rfl:r=7:=by omega
      have k2:decide ((7:Int)<7)=false:=by decide
      clear hrl hr1 hr2;have htb:=HTB.o;have htl:=HTL.o;go_wp2_with (fail)
      go_roundw
      case rel=>exact⟨t+1,by omega,by omega,by go_num,zC.o⟩
      case measure=>simp[intOf];omega
   ·obtain rfl:t=7:=by omega
    have k1:decide ((7:Int)<7)=false:=by decide
    clear htl ht1 ht2 HTB;have HCC:=Hd (Jq (SB.o.below HBT.o) X Y (by have:=HXY.o;omega) (by have:=HXY.o;omega));have he':=yC;unfold Enters at he';have a2C:=Hd (a5e.o.trans (HBT.o.mono a5e.o.size));go_wp2_with (fail);refine HCC.o.mono ?_;rintro e wQ ⟨rfl,hbq⟩;have Yv:=Hd (a2C.o.trans (hbq.mono a2C.o.size));clear hbq HCC he' HBT a2C;go_wp2_with (fail);refine(jZ wQ).mono ?_;rintro e wz ⟨rfl,hbz⟩;have iR:Hid (bz w wz):=(Yv.o).trans (hbz.mono (Yv.o).size);clear hbz;go_wp2_with (fail);go_ret;exact⟨rfl,iR.o⟩
 all_goals (go_wp2_with (fail);refine(jZ _).mono ?_;rintro e wz ⟨rfl,hbz⟩;have iR:Hid (bz w wz):=(iH.o).trans (hbz.mono (iH.o).size);clear hbz;go_wp2_with (fail);go_ret;exact⟨rfl,iR.o⟩)
end
section
open Go.RowKit Go.ChangeShapes Go.WideShapes Go.ChangeAt Go.Deep
theorem own:ownKnob prog.godebug=none:=by kernel_rfl
theorem laidOut:laidOutB prog=true:=by kernel_rfl
theorem qE(b off j:Nat):(⟨b,off,none⟩:Addr).add j=⟨b,off+j,none⟩:=by unfold Addr.add;split<;>simp_all
theorem D8{α:Type}{n:Nat}{p:Nat->α->Prop}(h:∀i,i<n->∃x,p i x):∃l:List α,l.length=n∧∀i (hi:i<l.length),p i l[i]:=by
 induction n with
 |zero=>exact⟨[],rfl,fun i hi=>by simp at hi⟩
 |succ n ih=>
  obtain⟨l,hl,hp⟩:=ih (fun i hi=>h i (by omega));obtain⟨x,hx⟩:=h n (by omega);refine⟨l++[x],by simp[hl],fun i hi=>?_⟩;rw[List.length_append,List.length_cons,List.length_nil]at hi;by_cases hin:i<l.length
  ·rw[List.getElem_append_left hin];exact hp i hin
  ·have:i=n:=by omega
   subst this
   have e:(l++[x])[i]'(by rw[List.length_append,List.length_cons,List.length_nil];omega)=x:=by
    rw[List.getElem_append_right (by omega)];simp[hl]
   rw[e];exact hx
end
end Go.Proofs.YtekdoeilpheklaaGreat
